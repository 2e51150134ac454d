import PyProof.Rows.All
import Wide.All
import OpenK.AllK
import Wide.FinOn
import PyProof.EqAt
import PyProof.EqKinds
import PyProof.TupleCall
import KE.BitLaws
import KE.BitLaws
import KE.BitLaws
import PyProof.ExcInit
import PyProof.ExcClass2
import KE.KSuperObj
import PyProof.InstStoreFacts
import OpenK.KMake
import KE.KSuper
import PyProof.FString
import PyProof.FitsInt
import KE.KSortTupG
import KE.KIsNot
import PyProof.ExcArgs
import PyProof.AutoSeq1
import PyProof.FactsAll.list_3
import PyProof.PureStr
import PyProof.FactsAll.str_4
import PyProof.Rows.SortG.SortRunsSt
import PyProof.Rows.SortShellSt
import PyProof.Rows.Walk
import KE.KUnpackStar
import PyProof.DictCompW
import PyProof.SetKind
import PyProof.Rows.SetFrom
import KE.KDictSum
import PyProof.Rows.SeqMore
import PySem.Challenge.RW_tornpictures_k41_codes_told
set_option Elab.async false
set_option linter.all false
set_option maxRecDepth 100000
namespace L2
open PySem PySem.Spec PyProof.Rows

/-- a key: an int or a str -/
abbrev Key := Sum Int Str
def keyIs : Key → Value → Bool
  | .inl k, v => Value.isInt k v
  | .inr x, v => Value.isStrOf x v
def keyH (w : World) : Key → Int
  | .inl k => hashInt k
  | .inr x => hashStr w x
theorem keyIs_shape : ∀ {k : Key} {v : Value}, keyIs k v = true → (∃ i t, k = Sum.inl i ∧ v = Value.int i t) ∨ (∃ x t, k = Sum.inr x ∧ v = Value.str x t)
  | .inl i, v, h => by
    obtain ⟨t, e⟩ := Value.isInt_shape (k := i) (v := v) h
    exact .inl ⟨i, t, rfl, e⟩
  | .inr x, v, h => by
    obtain ⟨t, e⟩ := Value.isStrOf_shape (x := x) (v := v) h
    exact .inr ⟨x, t, rfl, e⟩
theorem keyIs_int (i : Int) (t : Tok) : keyIs (.inl i) (.int i t) = true := by simp [keyIs, Value.isInt]
theorem keyIs_str (x : Str) (t : Tok) : keyIs (.inr x) (.str x t) = true := by simp [keyIs, Value.isStrOf]
theorem key_ll (a b : Int) : decide ((Sum.inl a : Key) = Sum.inl b) = (a == b) := by
  by_cases e : a = b
  · subst e; simp
  · have h : ¬ (Sum.inl a : Key) = Sum.inl b := fun q => e (Sum.inl.inj q)
    rw [decide_eq_false h]
    exact (beq_eq_false_iff_ne.mpr e).symm
theorem key_rr (a b : Str) : decide ((Sum.inr a : Key) = Sum.inr b) = decide (a = b) := by
  by_cases e : a = b
  · subst e; simp
  · have h : ¬ (Sum.inr a : Key) = Sum.inr b := fun q => e (Sum.inr.inj q)
    rw [decide_eq_false h, decide_eq_false e]
theorem key_lr (a : Int) (b : Str) : decide ((Sum.inl a : Key) = Sum.inr b) = false := decide_eq_false (fun q => nomatch q)
theorem key_rl (a : Str) (b : Int) : decide ((Sum.inr a : Key) = Sum.inl b) = false := decide_eq_false (fun q => nomatch q)

def mixKind (prog : Program) (w : World) : PySem.KeyKind prog w Key where
  is := keyIs
  hash := keyH w
  inj := fun v a b ha hb => by
    rcases keyIs_shape ha with ⟨i, t, rfl, rfl⟩ | ⟨x, t, rfl, rfl⟩
    · rcases keyIs_shape hb with ⟨j, u, rfl, e⟩ | ⟨y, u, rfl, e⟩
      · injection e with e1 _; rw [e1]
      · exact nomatch e
    · rcases keyIs_shape hb with ⟨j, u, rfl, e⟩ | ⟨y, u, rfl, e⟩
      · exact nomatch e
      · injection e with e1 _; rw [e1]
  byValue := fun k v h => by
    rcases keyIs_shape h with ⟨i, t, rfl, rfl⟩ | ⟨x, t, rfl, rfl⟩ <;> rfl
  pyHash := fun hv h => by
    rcases keyIs_shape hv with ⟨i, t, rfl, rfl⟩ | ⟨x, t, rfl, rfl⟩
    · exact wpAny_pyHash_int h
    · exact wpAny_pyHash_str h
  eqBool := fun hu hv h => by
    rcases keyIs_shape hu with ⟨i, t, rfl, rfl⟩ | ⟨x, t, rfl, rfl⟩
    · rcases keyIs_shape hv with ⟨j, u, rfl, rfl⟩ | ⟨y, u, rfl, rfl⟩
      · rw [key_ll] at h; exact wpAny_eqBool_int h
      · rw [key_lr] at h; exact SeqAt.EqAt.int_str i t y u _ _ _ _ h
    · rcases keyIs_shape hv with ⟨j, u, rfl, rfl⟩ | ⟨y, u, rfl, rfl⟩
      · rw [key_rl] at h; exact SeqAt.EqAt.str_int x t j u _ _ _ _ h
      · rw [key_rr] at h; exact wpAny_eqBool_str h
  «strs» := fun k x t v h => by
    rcases keyIs_shape h with ⟨i, u, rfl, e⟩ | ⟨y, u, rfl, e⟩
    · exact nomatch e
    · injection e with e1 _
      subst e1
      cases v <;> rfl

theorem mixKind_int (prog : Program) (w : World) (i : Int) (t : Tok) : (mixKind prog w).is (.inl i) (.int i t) = true := keyIs_int i t
theorem mixKind_str (prog : Program) (w : World) (x : Str) (t : Tok) : (mixKind prog w).is (.inr x) (.str x t) = true := keyIs_str x t
end L2

namespace L2
open PySem PySem.Spec PyProof.Rows

/-- a value, without the heap -/
inductive V where
  | non | bl (b : Bool) | int (i : Int) | str (x : Str) | byt (b : Array UInt8) | flt (b : UInt64) | ref (a : Addr) | ty (n : String)
  deriving DecidableEq

def RelV : V → Value → Prop
  | .non, u => u = Value.none
  | .bl b, u => u = Value.bool b
  | .int i, u => ∃ t, u = Value.int i t
  | .str x, u => ∃ t, u = Value.str x t
  | .byt b, u => ∃ t, u = Value.bytes b t
  | .flt b, u => ∃ t, u = Value.float b t
  | .ref a, u => u = Value.ref a
  | .ty n, u => u = Value.type n

abbrev Vals : List V → List Value → Prop := Paired RelV
theorem Vals.length {xs : List V} {us : List Value} (r : Vals xs us) : xs.length = us.length := Paired.length r
theorem Vals.get : ∀ {xs : List V} {us : List Value} {i : Nat} {x : V}, Vals xs us → xs[i]? = some x → ∃ u, us[i]? = some u ∧ RelV x u
  | _, _, _, _, .nil, e => by simp at e
  | _, _, 0, _, .cons r _, e => by simp at e; subst e; exact ⟨_, rfl, r⟩
  | _, _, i + 1, x, .cons _ t, e => by
    obtain ⟨u, h1, h2⟩ := Vals.get (i := i) (x := x) t (by simpa using e)
    exact ⟨u, by simpa using h1, h2⟩
theorem Vals.set {x : V} {u : Value} (r : RelV x u) : ∀ {xs : List V} {us : List Value} (i : Nat), Vals xs us → Vals (xs.set i x) (us.set i u)
  | _, _, _, .nil => .nil
  | _, _, 0, .cons _ t => .cons r t
  | _, _, i + 1, .cons q t => .cons q (Vals.set r i t)
theorem Vals.append : ∀ {xs ys : List V} {us ws : List Value}, Vals xs us → Vals ys ws → Vals (xs ++ ys) (us ++ ws)
  | _, _, _, _, .nil, s => s
  | _, _, _, _, .cons r t, s => .cons r (Vals.append t s)
theorem Vals.take : ∀ {xs : List V} {us : List Value} (n : Nat), Vals xs us → Vals (xs.take n) (us.take n)
  | _, _, 0, _ => .nil
  | _, _, _ + 1, .nil => .nil
  | _, _, n + 1, .cons r t => .cons r (Vals.take n t)
theorem Vals.drop : ∀ {xs : List V} {us : List Value} (n : Nat), Vals xs us → Vals (xs.drop n) (us.drop n)
  | _, _, 0, r => r
  | _, _, _ + 1, .nil => .nil
  | _, _, n + 1, .cons _ t => Vals.drop n t
def RelO : Option V → Option Value → Prop
  | some v, some u => RelV v u
  | none, none => True
  | _, _ => False
def KV {κ : Type} : List (κ × V) → List (κ × Value) → Prop := Paired fun (p : κ × V) (q : κ × Value) => p.1 = q.1 ∧ RelV p.2 q.2

/-- a key of a dict (00_mix): an int or a text -/
def kV : Key → V
  | .inl i => .int i
  | .inr x => .str x

/-- what stands at a tracked address -/
inductive HO where
  /-- a list -/
  | lst (xs : List V)
  /-- a tuple (never changes) -/
  | tup (xs : List V)
  /-- a dict whose keys are ints and texts; one whose keys are tuples of ints and texts (the empty one is both) -/
  | dK (kvs : List (Key × V)) | dT (kvs : List (List Key × V))
  /-- a set of ints: its members, its size -/
  | set (S : Int → Bool) (n : Nat)
  /-- an instance of the class at C, its dict at dx, its attributes -/
  | ins (C dx : Addr) (fs : List (Str × V))
  /-- the dict of the instance at x -/
  | own (x : Addr)
  /-- the dict of an exception -/
  | xd (fs : List (Str × V))
  /-- a bound method, f of x -/
  | met (f x : Addr)
  /-- a range object lo, lo + 1, .. below hi -/
  | rng (lo hi : Int)
  /-- a thing that is known to the object (the script; a dict while a loop walks it): read, never written while it is so -/
  | frz (o : Obj) (u : HO)
  /-- a code object's table -/
  | tbl (ps : Array Value)
  /-- any other thing, by what is true of its one object (a def of one's own: SetO a S n := HO.ext fun h => ..) -/
  | ext (φ : Heap → Prop)

abbrev Hp := Addr → Option HO
def upd (H : Hp) (a : Addr) (o : HO) : Hp := fun b => if b = a then some o else H b
theorem upd_same {H : Hp} {a : Addr} {o : HO} : upd H a o a = some o := by unfold upd; rw [if_pos rfl]
theorem upd_ne {H : Hp} {a b : Addr} {o : HO} (h : b ≠ a) : upd H a o b = H b := by unfold upd; rw [if_neg h]
/-- two objects of different content stand apart -/
theorem ne_of {H : Hp} {a b : Addr} {o u : HO} (h : H a = some o) (h' : H b = some u) (d : o ≠ u) : a ≠ b := by
  intro e; subst e; rw [h] at h'; exact d (Option.some.inj h')
theorem ne_of_none {H : Hp} {a b : Addr} {o : HO} (h : H a = some o) (h' : H b = none) : a ≠ b := by
  intro e; subst e; rw [h] at h'; cases h'

section
variable (P : Program) (w : World)
def ObjOk (H : Hp) (h : Heap) (a : Addr) : HO → Prop
  | .lst xs => xs.length ≤ sizeLine ∧ ∃ (its : List Value) (n : Nat), Vals xs its ∧ h.get? a = some { cls := .type "list", data := .seq its.toArray n }
  | .tup xs => xs.length ≤ sizeLine ∧ ∃ its : List Value, Vals xs its ∧ IsTup h a its.toArray
  | .dK kvs => kvs.length ≤ sizeLine ∧ (a == sysModules) = false ∧ ∃ vs, KV kvs vs ∧ h.DictOf (mixKind P w) a vs
  | .dT kvs => kvs.length ≤ sizeLine ∧ (a == sysModules) = false ∧ ∃ xs : List (List Key × Addr × Value),
      Paired (fun (p : List Key × V) (q : List Key × Addr × Value) => p.1 = q.1 ∧ H q.2.1 = some (.tup (p.1.map kV)) ∧ RelV p.2 q.2.2) kvs xs ∧
      ∃ o es ep, h.get? a = some o ∧ o.ExactDict ∧ o.data = .dict es ep ∧ es.toList = xs.map (entryOfKey (tupleKind (mixKind P w))) ∧ (xs.map (·.1)).Nodup
  | .set S n => h.SetOf (intKind P w) a S n
  | .ins C dx fs => H dx = some (.own a) ∧ fs.length ≤ 1000 ∧ dx ≠ a ∧ h.get? a = some (PySem.W.instObj C dx) ∧
      ∃ mA, h.Ns1 dx mA ∧ (∀ f, RelO (fs.lookup f) (mA f)) ∧ PySem.Within mA (fs.map (·.1))
  | .own _ => ∃ o, h.get? a = some o
  | .xd fs => ∃ mA, h.Ns1 a mA ∧ ∀ f, RelO (fs.lookup f) (mA f)
  | .rng lo hi => ∃ t u v, h.get? a = some { cls := .type "range", data := .fields #[.int lo t, .int hi u, .int 1 v] }
  | .frz o u => h.get? a = some o ∧ ObjOk H h a u
  | .tbl ps => h.get? a = some { cls := .none, data := .fields ps }
  | .met f x => h.get? a = some (PySem.W.methodObj (.ref f) (.ref x))
  | .ext φ => φ h ∧ (∃ o, h.get? a = some o) ∧ ∀ h1 h2 : Heap, φ h1 → (∀ o, h1.get? a = some o → h2.get? a = some o) → φ h2
/-- the abstract heap is held -/
def HOk (H : Hp) (h : Heap) : Prop := ∀ a o, H a = some o → ObjOk P w H h a o
end

section
variable {P : Program} {w : World} {H H' : Hp} {h h' : Heap} {a : Addr} {o : HO}
theorem ObjOk.lt (x : ObjOk P w H h a o) : a < h.objs.size := by
  cases o with
  | lst xs => obtain ⟨_, _, _, _, e⟩ := x; exact Heap.lt_size e
  | tup xs => obtain ⟨_, _, _, p⟩ := x; exact p.lt
  | dK kvs => obtain ⟨_, _, _, _, o, _, _, e, _⟩ := x; exact Heap.lt_size e
  | dT kvs => obtain ⟨_, _, _, _, o, _, _, e, _⟩ := x; exact Heap.lt_size e
  | set S n => obtain ⟨o, _, _, _, e, _⟩ := x; exact Heap.lt_size e
  | ins C dx fs => obtain ⟨_, _, _, e, _⟩ := x; exact Heap.lt_size e
  | own y => obtain ⟨_, e⟩ := x; exact Heap.lt_size e
  | xd fs => obtain ⟨_, ⟨_, _, _, e, _⟩, _⟩ := x; exact Heap.lt_size e
  | rng lo hi => obtain ⟨_, _, _, e⟩ := x; exact Heap.lt_size e
  | frz ob u => obtain ⟨e, _⟩ := x; exact Heap.lt_size e
  | tbl ps => exact Heap.lt_size (show h.get? a = some _ from x)
  | met f y => exact Heap.lt_size (show h.get? a = some _ from x)
  | ext φ => obtain ⟨_, ⟨_, e⟩, _⟩ := x; exact Heap.lt_size e
theorem Paired.mapP {α β : Type} {F G : α → β → Prop} : ∀ {l₁ : List α} {l₂ : List β}, Paired F l₁ l₂ → (∀ a b, F a b → G a b) → Paired G l₁ l₂
  | _, _, .nil, _ => .nil
  | _, _, .cons r t, f => .cons (f _ _ r) (Paired.mapP t f)
/-- what an object's description leans on: its own object, its own dict, the tuples -/
theorem ObjOk.stay (x : ObjOk P w H h a o) (k : ∀ b u, (b = a ∨ H b = some (.own a)) → h.get? b = some u → h'.get? b = some u)
    (ho : ∀ b, H b = some (.own a) → H' b = some (.own a)) (ht : ∀ b xs, H b = some (.tup xs) → H' b = some (.tup xs)) : ObjOk P w H' h' a o := by
  induction o with
  | lst xs => obtain ⟨z, its, n, r, e⟩ := x; exact ⟨z, its, n, r, k _ _ (.inl rfl) e⟩
  | tup xs => obtain ⟨z, its, r, ob, e, c⟩ := x; exact ⟨z, its, r, ob, k _ _ (.inl rfl) e, c⟩
  | dK kvs => obtain ⟨z, y, vs, r, ob, es, ep, e, c⟩ := x; exact ⟨z, y, vs, r, ob, es, ep, k _ _ (.inl rfl) e, c⟩
  | dT kvs =>
    obtain ⟨z, y, xs, r, ob, es, ep, e, c⟩ := x
    exact ⟨z, y, xs, Paired.mapP r fun p q z => ⟨z.1, ht _ _ z.2.1, z.2.2⟩, ob, es, ep, k _ _ (.inl rfl) e, c⟩
  | set S n => obtain ⟨ob, es, ep, t, e, c⟩ := x; exact ⟨ob, es, ep, t, k _ _ (.inl rfl) e, c⟩
  | ins C dx fs =>
    obtain ⟨d, z, ne, e, mA, ⟨od, es, ep, e2, c⟩, r⟩ := x
    exact ⟨ho _ d, z, ne, k _ _ (.inl rfl) e, mA, ⟨od, es, ep, k _ _ (.inr d) e2, c⟩, r⟩
  | own y => obtain ⟨ob, e⟩ := x; exact ⟨ob, k _ _ (.inl rfl) e⟩
  | xd fs => obtain ⟨mA, ⟨od, es, ep, e, c⟩, r⟩ := x; exact ⟨mA, ⟨od, es, ep, k _ _ (.inl rfl) e, c⟩, r⟩
  | rng lo hi => obtain ⟨t, u, v, e⟩ := x; exact ⟨t, u, v, k _ _ (.inl rfl) e⟩
  | frz ob u ih => obtain ⟨e, q⟩ := x; exact ⟨k _ _ (.inl rfl) e, ih q⟩
  | tbl ps =>
    have e : h.get? a = some { cls := .none, data := .fields ps } := x
    show h'.get? a = some { cls := .none, data := .fields ps }
    exact k a _ (.inl rfl) e
  | met f y =>
    have e : h.get? a = some (PySem.W.methodObj (.ref f) (.ref y)) := x
    show h'.get? a = some (PySem.W.methodObj (.ref f) (.ref y))
    exact k a _ (.inl rfl) e
  | ext φ => obtain ⟨p, ⟨o, e⟩, st⟩ := x; exact ⟨st _ _ p fun o q => k _ _ (.inl rfl) q, ⟨o, k _ _ (.inl rfl) e⟩, st⟩
theorem HOk.lt (x : HOk P w H h) (e : H a = some o) : a < h.objs.size := (x a o e).lt
theorem HOk.fresh (x : HOk P w H h) (e : h.objs.size ≤ a) : H a = none := by
  cases q : H a with
  | none => rfl
  | some u => exact absurd (Nat.lt_of_lt_of_le (x.lt q) e) (Nat.lt_irrefl _)
/-- every object of the heap is kept -/
theorem HOk.kept (x : HOk P w H h) (k : ∀ b u, h.get? b = some u → h'.get? b = some u) : HOk P w H h' := fun a o e =>
  (x a o e).stay (fun b u _ q => k b u q) (fun _ q => q) fun _ _ q => q
/-- a new object is laid and tracked -/
theorem HOk.laid (x : HOk P w H h) (k : ∀ b u, h.get? b = some u → h'.get? b = some u) (hp : h.objs.size ≤ a) (new : ObjOk P w (upd H a o) h' a o) : HOk P w (upd H a o) h' := fun b u e => by
  have hn := x.fresh hp
  by_cases hb : b = a
  · subst hb; rw [upd_same] at e; cases e; exact new
  · rw [upd_ne hb] at e
    exact (x b u e).stay (fun c v _ q => k c v q) (fun c q => by rw [upd_ne (ne_of_none q hn)]; exact q) fun c xs q => by rw [upd_ne (ne_of_none q hn)]; exact q
end

/-- what may be read as u: it is u, or a known u -/
def Rd (H : Hp) (a : Addr) (u : HO) : Prop := H a = some u ∨ ∃ o, H a = some (.frz o u)
theorem Rd.of {H : Hp} {a : Addr} {u : HO} (h : H a = some u) : Rd H a u := .inl h
theorem Rd.ok {P : Program} {w : World} {H : Hp} {h : Heap} {a : Addr} {u : HO} (r : Rd H a u) (x : HOk P w H h) : ObjOk P w H h a u := by
  rcases r with r | ⟨o, r⟩
  · exact x a u r
  · obtain ⟨_, q⟩ := x a _ r
    exact q
/-- what may be written -/
def Mut : Option HO → Prop
  | some (.lst _) => True
  | some (.dK _) => True
  | some (.dT _) => True
  | some (.set _ _) => True
  | some (.ins _ _ _) => True
  | some (.ext _) => True
  | _ => False
section
variable {P : Program} {w : World} {H : Hp} {h h' : Heap} {x e : Addr} {o' : HO}
/-- the object at e is changed: x itself, or the dict of the instance x -/
theorem HOk.write (ok : HOk P w H h) (mu : Mut (H x)) (he : e = x ∨ H e = some (.own x)) (k : ∀ b u, b ≠ e → h.get? b = some u → h'.get? b = some u) (heo : ∃ u, h'.get? e = some u)
    (new : ObjOk P w (upd H x o') h' x o') : HOk P w (upd H x o') h' := fun b u q => by
  have nown : ∀ c y, H c = some (.own y) → c ≠ x := fun c y r z => by subst z; rw [r] at mu; exact mu
  have ntup : ∀ c xs, H c = some (.tup xs) → c ≠ x := fun c xs r z => by subst z; rw [r] at mu; exact mu
  by_cases hb : b = x
  · subst hb; rw [upd_same] at q; cases q; exact new
  · rw [upd_ne hb] at q
    by_cases hbe : b = e
    · have q' : H b = some (.own x) := by
        rcases he with z | z
        · exact absurd (hbe.trans z) hb
        · rw [hbe]; exact z
      rw [q] at q'; cases q'
      obtain ⟨v, hv⟩ := heo
      exact ⟨v, by rw [hbe]; exact hv⟩
    · refine (ok b u q).stay (fun c v hc r => k c v ?_ r) (fun c r => by rw [upd_ne (nown c b r)]; exact r) fun c xs r => by rw [upd_ne (ntup c xs r)]; exact r
      rcases hc with rfl | hc
      · exact hbe
      · rintro rfl
        rcases he with z | z
        · exact nown c b hc z
        · rw [hc] at z; cases z; exact hb rfl
end

structure Un (fs ex : List Addr) (H H' : Hp) (h h' : Heap) : Prop where
  keep : ∀ b o, h.get? b = some o → H b = none → b ∉ fs → b ∉ ex → h'.get? b = some o
  slot : ∀ b o, h.get? b = some o → H b = none → b ∈ fs → b ∉ ex → ∃ sl, h'.get? b = some { o with slots := sl }
  free : ∀ b o, h.get? b = some o → H b = none → b ∉ ex → H' b = none
  there : ∀ b o, h.get? b = some o → b ∉ ex → ∃ o', h'.get? b = some o'
  tups : ∀ b xs, H b = some (.tup xs) → H' b = some (.tup xs)
  frzs : ∀ b o u, H b = some (.frz o u) → H' b = some (.frz o u)
  tbls : ∀ b ps, H b = some (.tbl ps) → ∃ more, H' b = some (.tbl (ps ++ more))
section
variable {fs fs' ex ex' : List Addr} {H H1 H2 : Hp} {h h1 h2 h' : Heap} {a x e : Addr} {o : HO}
theorem Un.any (u : Un fs ex H H1 h h1) {b : Addr} {ob : Obj} (q : h.get? b = some ob) (n : H b = none) (hx : b ∉ ex) : ∃ sl, h1.get? b = some { ob with slots := sl } := by
  by_cases hb : b ∈ fs
  · exact u.slot b ob q n hb hx
  · exact ⟨ob.slots, u.keep b ob q n hb hx⟩
theorem Un.trans (a : Un fs ex H H1 h h1) (b : Un fs ex H1 H2 h1 h2) : Un fs ex H H2 h h2 where
  keep := fun c ob q n hc hx => b.keep c ob (a.keep c ob q n hc hx) (a.free c ob q n hx) hc hx
  slot := fun c ob q n hc hx => by
    obtain ⟨sl, e1⟩ := a.slot c ob q n hc hx
    obtain ⟨sl', e2⟩ := b.slot c _ e1 (a.free c ob q n hx) hc hx
    exact ⟨sl', e2⟩
  free := fun c ob q n hx => by
    obtain ⟨o', e1⟩ := a.there c ob q hx
    exact b.free c o' e1 (a.free c ob q n hx) hx
  there := fun c ob q hx => by
    obtain ⟨o', e1⟩ := a.there c ob q hx
    exact b.there c o' e1 hx
  tups := fun c xs q => b.tups c xs (a.tups c xs q)
  frzs := fun c ob xs q => b.frzs c ob xs (a.frzs c ob xs q)
  tbls := fun c ps q => by
    obtain ⟨m1, e1⟩ := a.tbls c ps q
    obtain ⟨m2, e2⟩ := b.tbls c _ e1
    exact ⟨m1 ++ m2, by rw [e2, Array.append_assoc]⟩
theorem Un.kept (k : ∀ b u, h.get? b = some u → h'.get? b = some u) : Un fs ex H H h h' :=
  ⟨fun b ob q _ _ _ => k b ob q, fun b ob q _ _ _ => ⟨ob.slots, k b ob q⟩, fun _ _ _ n _ => n, fun b ob q _ => ⟨ob, k b ob q⟩, fun _ _ q => q, fun _ _ _ q => q, fun _ ps q => ⟨#[], by rw [q]; simp⟩⟩
theorem Un.refl : Un fs ex H H h h := Un.kept fun _ _ q => q
theorem Un.laid (k : ∀ b u, h.get? b = some u → h'.get? b = some u) (hp : h.objs.size ≤ a) (hn : H a = none) : Un fs ex H (upd H a o) h h' where
  keep := fun b u q _ _ _ => k b u q
  slot := fun b u q _ _ _ => ⟨u.slots, k b u q⟩
  free := fun b u q n _ => by rw [upd_ne (Nat.ne_of_lt (Nat.lt_of_lt_of_le (Heap.lt_size q) hp))]; exact n
  there := fun b u q _ => ⟨u, k b u q⟩
  tups := fun b xs q => by rw [upd_ne (ne_of_none q hn)]; exact q
  frzs := fun b u xs q => by rw [upd_ne (ne_of_none q hn)]; exact q
  tbls := fun b ps q => ⟨#[], by rw [upd_ne (ne_of_none q hn), q]; simp⟩
theorem Un.write (mu : Mut (H x)) (he : e = x ∨ H e = some (.own x)) (k : ∀ b u, b ≠ e → h.get? b = some u → h'.get? b = some u) (heo : ∃ u, h'.get? e = some u) : Un fs ex H (upd H x o) h h' := by
  have hx : ∀ b, H b = none → b ≠ x := fun b n z => by subst z; rw [n] at mu; exact mu
  have hb : ∀ b, H b = none → b ≠ e := fun b n z => by
    subst z
    rcases he with r | r
    · exact hx b n r
    · rw [n] at r; cases r
  have hm : ∀ b u, H b = some u → ¬ Mut (some u) → b ≠ x := fun b u q nm z => by subst z; rw [q] at mu; exact nm mu
  refine ⟨fun b u q n _ _ => k b u (hb b n) q, fun b u q n _ _ => ⟨u.slots, k b u (hb b n) q⟩, fun b u q n _ => by rw [upd_ne (hx b n)]; exact n, fun b u q _ => ?_,
    fun b xs q => by rw [upd_ne (hm b _ q fun z => z)]; exact q, fun b u xs q => by rw [upd_ne (hm b _ q fun z => z)]; exact q, fun b ps q => ⟨#[], by rw [upd_ne (hm b _ q fun z => z), q]; simp⟩⟩
  by_cases hbe : b = e
  · subst hbe; exact heo
  · exact ⟨u, k b u hbe q⟩
theorem Un.mono (u : Un fs ex H H1 h h1) (hs : ∀ b ∈ fs, b ∈ fs') (hx : ∀ b ∈ ex, b ∈ ex') : Un fs' ex' H H1 h h1 :=
  ⟨fun b ob q n hb he => u.keep b ob q n (fun z => hb (hs b z)) fun z => he (hx b z), fun _ _ q n _ he => u.any q n fun z => he (hx _ z), fun b ob q n he => u.free b ob q n fun z => he (hx b z), fun b ob q he => u.there b ob q fun z => he (hx b z), u.tups, u.frzs, u.tbls⟩
end

def trk (h : Heap) (H : Hp) : List Addr := (List.range h.objs.size).filter fun a => (H a).isSome
def hidT (h : Heap) (H : Hp) : Heap := PySem.W.hideAll h (trk h H)
theorem hidT_size (h : Heap) (H : Hp) : (hidT h H).objs.size = h.objs.size := PySem.W.hideAll_size _ _
theorem hidT_get {h : Heap} {H : Hp} {b : Addr} {o : Obj} (e : h.get? b = some o) (n : H b = none) : (hidT h H).get? b = some o :=
  PySem.W.hideAll_get _ e fun hm => by
    have q : (H b).isSome = true := (List.mem_filter.mp hm).2
    rw [n] at q; simp at q
theorem of_hidT {h : Heap} {H : Hp} {b : Addr} {o : Obj} (e : (hidT h H).get? b = some o) : h.get? b = some o ∧ H b = none := by
  have e' : h.get? b = some o := PySem.W.of_hideAll (trk h H) e
  refine ⟨e', ?_⟩
  cases q : H b with
  | none => rfl
  | some x =>
    have hm : b ∈ trk h H := List.mem_filter.mpr ⟨List.mem_range.mpr (Heap.lt_size e'), by simp [q]⟩
    have z : (hidT h H).get? b = none := PySem.W.hideAll_none (trk h H) hm
    rw [z] at e; cases e

def allNews (g h : Heap) (L : Addr) : List (Addr × Obj) := (List.range h.objs.size).filterMap fun a => if a = L ∨ (g.get? a).isSome = true then none else (h.get? a).map fun o => (a, o)
def rest (g h : Heap) (L d : Addr) : List (Addr × Obj) := (allNews g h L).filter fun p => decide (p.1 ≠ d)
end L2

namespace L2
open PySem PySem.Spec PyProof.Rows

/-- the module's facts, over the base: the heap at the law's entry without what is tracked there -/
structure Mod (K : PySem.W.Frag) (mg : Str → Option Value) (base : Heap) : Prop where
  kin : K.In base
  glob : base.Ns mainGlobals mg
  blt : ∃ mb, base.Ns builtinsNs mb ∧ ∀ x : Str, x ≠ "__name__" → mb x = bootBuiltins x
  nolimit : base.NoLimit

/-- the context: a def's body (or a comprehension's block) running. base: fixed through the whole law; s₀, H₀: the entry; outer: the frames whose slots others may change (a def's callers); stack: all frames that run;
   ex: iterators that were made ahead of the entry and are walked here (a comprehension's); fn: the names whose cells were made at the entry (a def: all; a comprehension's block: its own); calm: not within an except suite; pn: pins that every state bears; xe: what is wanted of an exception that leaves the code -/
structure Cx where
  prog : Program
  w : World
  K : PySem.W.Frag
  mg : Str → Option Value
  base : Heap
  A : Around
  N : List Str
  s_0 : Shared
  H_0 : Hp
  env : Env
  outer : List Env
  stack : List Env
  ex : List Addr
  fn : Str → Bool
  calm : Bool
  pn : List (Addr × Obj)
  xe : Value → Shared → Prop
/-- the callers' frames -/
def frs (l : List Env) : List Addr := l.filterMap (·.frame)
abbrev Cx.fs (X : Cx) : List Addr := frs X.outer

def Vis (sc : Scope) (x : Str) : Prop := sc.names.lookup x = some .local ∨ sc.names.lookup x = some .cell ∨ sc.names.lookup x = some .free
def Loc (sc : Scope) (x : Str) : Prop := sc.names.lookup x = some .local ∨ sc.names.lookup x = some .cell
def Look (env : Env) (h : Heap) (m : Str → Option Value) (x : Str) (u : Value) : Prop :=
  (env.kindOf x = some .local ∧ m x = some u) ∨ ((env.kindOf x = some .cell ∨ env.kindOf x = some .free) ∧ ∃ c, env.cells.lookup x = some c ∧ h.IsCell c (some u))

structure Cx.Ok (X : Cx) : Prop where
  mod : Mod X.K X.mg X.base
  kind : X.env.scope.kind = .function
  glob : X.env.globals = mainGlobals
  blt : X.env.builtins = builtinsNs
  above : X.s_0.heap.objs.size ≤ X.env.locals
  inj : ∀ x y c, X.env.cells.lookup x = some c → X.env.cells.lookup y = some c → x = y
  has : ∀ x, (X.env.kindOf x = some .cell ∨ X.env.kindOf x = some .free) → ∃ c, X.env.cells.lookup x = some c
  cab : ∀ x c, X.fn x = true → X.env.cells.lookup x = some c → X.s_0.heap.objs.size ≤ c
  hd : X.calm = true → X.A.handled = none
  frames : X.A.frames = some X.stack
  stk : X.stack = X.outer ∨ (X.stack = X.env :: X.outer ∧ X.env.frame = some X.env.locals)
  exf : ∀ b ∈ X.ex, b ≠ X.env.locals ∧ ∀ x c, X.env.cells.lookup x = some c → c ≠ b
  bs : ∀ b o, X.base.get? b = some o → X.s_0.heap.get? b = some o ∧ X.H_0 b = none
  bsz : X.base.objs.size ≤ X.s_0.heap.objs.size
  noex : ∀ b o, X.base.get? b = some o → b ∉ X.ex
  exfs : ∀ b ∈ X.ex, b ∉ X.fs
  funs : X.s_0.heap.FunFrames X.base X.outer
  frf : ∀ b ∈ X.fs, X.H_0 b = none

structure Inv (X : Cx) (pins : List (Addr × Obj)) (σ : List (Option V)) (H : Hp) (s : Shared) : Prop where
  ok : X.Ok
  os : s.os = X.s_0.os
  bare : AllBare s.gens
  base : Un X.fs X.ex X.H_0 H X.s_0.heap s.heap
  loc : ∃ m, s.heap.Ns X.env.locals m ∧ ∀ (i : Nat) (x : Str) (v : V), X.N[i]? = some x → σ[i]? = some (some v) → Vis X.env.scope x → ∃ u, RelV v u ∧ Look X.env s.heap m x u
  cell : ∀ x c, X.env.cells.lookup x = some c → ∃ v, s.heap.IsCell c v
  free : H X.env.locals = none
  freeC : ∀ x c, X.env.cells.lookup x = some c → H c = none
  pin : ∀ p ∈ X.pn ++ pins, s.heap.get? p.1 = some p.2 ∧ H p.1 = none ∧ p.1 ≠ X.env.locals ∧ p.1 ∉ X.fs ∧ ∀ v, p.2.data ≠ .cell v
  hok : HOk X.prog X.w H s.heap
  len : σ.length = X.N.length

section
variable {X : Cx} {pins : List (Addr × Obj)} {σ : List (Option V)} {H H' : Hp} {s : Shared} {h' : Heap}

theorem Cx.Ok.nofr (ok : X.Ok) {b : Addr} {o : Obj} (e : X.base.get? b = some o) : b ∉ X.fs := fun hb => by
  have := (ok.funs.mem hb).1
  rw [e] at this; cases this
theorem Inv.bs (I : Inv X pins σ H s) : ∀ b o, X.base.get? b = some o → s.heap.get? b = some o ∧ H b = none := fun b o e =>
  ⟨I.base.keep b o (I.ok.bs b o e).1 (I.ok.bs b o e).2 (I.ok.nofr e) (I.ok.noex b o e), I.base.free b o (I.ok.bs b o e).1 (I.ok.bs b o e).2 (I.ok.noex b o e)⟩
theorem Inv.bk (I : Inv X pins σ H s) : ∀ b o, X.base.get? b = some o → s.heap.get? b = some o := fun b o e => (I.bs b o e).1
theorem Inv.mod (I : Inv X pins σ H s) : Mod X.K X.mg X.base := I.ok.mod
theorem Inv.kIn (I : Inv X pins σ H s) : X.K.In s.heap := I.ok.mod.kin.keeps I.bk
theorem Inv.nolimit (I : Inv X pins σ H s) : s.heap.NoLimit := I.ok.mod.nolimit.keeps I.bk
/-- the frame over the base: for OpenK's rules (K.In X.base is I.mod.kin) -/
theorem Inv.fr (I : Inv X pins σ H s) : ∃ m, Fr X.base X.env.locals s.heap m :=
  let ⟨m, hn, _⟩ := I.loc
  ⟨m, hn, I.bk, Nat.le_trans I.ok.bsz I.ok.above⟩
theorem Inv.lt (I : Inv X pins σ H s) : X.env.locals < s.heap.objs.size := let ⟨_, hn, _⟩ := I.loc; hn.lt
theorem Inv.sz (I : Inv X pins σ H s) : X.s_0.heap.objs.size ≤ s.heap.objs.size := Nat.le_trans I.ok.above (Nat.le_of_lt I.lt)
theorem Inv.nofs (I : Inv X pins σ H s) {a : Addr} (h : s.heap.objs.size ≤ a) : a ∉ X.fs := fun hb => by
  obtain ⟨_, o, ho, _⟩ := I.ok.funs.mem hb
  exact absurd (Nat.lt_of_lt_of_le (Heap.lt_size ho) (Nat.le_trans I.sz h)) (Nat.lt_irrefl _)
theorem Inv.cne (I : Inv X pins σ H s) : ∀ x c, X.env.cells.lookup x = some c → c ≠ X.env.locals := fun x c e z => by
  obtain ⟨v, o, ho, hd⟩ := I.cell x c e
  obtain ⟨m, ⟨o', es, ep, ho', hd', _⟩, _⟩ := I.loc
  rw [z, ho'] at ho; cases ho; rw [hd'] at hd; cases hd
theorem Inv.funs (I : Inv X pins σ H s) : s.heap.FunFrames X.base X.outer := by
  have all : ∀ (l : List Env), (∀ b ∈ frs l, b ∈ X.fs) → X.s_0.heap.FunFrames X.base l → s.heap.FunFrames X.base l := by
    intro l
    induction l with
    | nil => intro _ _; trivial
    | cons env r ih =>
      intro hs hl
      obtain ⟨hk, ⟨L, o, hf, hn, ho, hd⟩, hr⟩ := hl
      have hL : L ∈ X.fs := hs L (by unfold frs; rw [List.filterMap_cons, hf]; exact List.mem_cons_self)
      obtain ⟨sl, e⟩ := I.base.slot L o ho (I.ok.frf L hL) hL fun z => I.ok.exfs L z hL
      exact ⟨hk, ⟨L, _, hf, hn, e, hd⟩, ih (fun b hb => hs b (by unfold frs; rw [List.filterMap_cons, hf]; exact List.mem_cons_of_mem _ hb)) hr⟩
  exact all X.outer (fun _ hb => hb) I.ok.funs

/-- the frames that run, for a call -/
theorem Inv.stack (I : Inv X pins σ H s) : s.heap.FunFrames X.base X.stack := by
  rcases I.ok.stk with e | ⟨e, hf⟩
  · rw [e]; exact I.funs
  · rw [e]
    obtain ⟨m, hn, _⟩ := I.loc
    refine .cons (by rw [I.ok.kind]; decide) hf hn ?_ I.funs
    exact Heap.get?_none_of_le (Nat.le_trans I.ok.bsz I.ok.above)
theorem Inv.stkSub (I : Inv X pins σ H s) : ∀ b ∈ frs X.stack, b ∈ X.env.locals :: X.fs := fun b hb => by
  rcases I.ok.stk with e | ⟨e, hf⟩
  · rw [e] at hb; exact List.mem_cons_of_mem _ hb
  · rw [e] at hb
    unfold frs at hb
    rw [List.filterMap_cons, hf] at hb
    exact hb
theorem Inv.stkFree (I : Inv X pins σ H s) : ∀ b ∈ frs X.stack, H b = none := fun b hb => by
  rcases List.mem_cons.mp (I.stkSub b hb) with e | hb
  · rw [e]; exact I.free
  · obtain ⟨_, o, ho, _⟩ := I.ok.funs.mem hb
    exact I.base.free b o ho (I.ok.frf b hb) fun z => I.ok.exfs b z hb

/-- THE STEP: the untracked objects but the frame and the records at ch are kept (the callers' frames up to slots), the frame's map is kept, the new abstract heap is held -/
theorem Inv.step {g' : Array GenState} {t' : Nat} {d' : Drawn} {ch : List Addr} (I : Inv X pins σ H s)
    (hch : ∀ b ∈ ch, (b ∈ X.ex ∨ X.s_0.heap.objs.size ≤ b) ∧ b ≠ X.env.locals ∧ (∀ x c, X.env.cells.lookup x = some c → c ≠ b) ∧ ∀ p ∈ X.pn ++ pins, p.1 ≠ b)
    (keep : ∀ b o, b ≠ X.env.locals → b ∉ X.fs → b ∉ ch → s.heap.get? b = some o → H b = none → h'.get? b = some o)
    (slot : ∀ b o, b ≠ X.env.locals → b ∈ X.fs → b ∉ ch → s.heap.get? b = some o → H b = none → ∃ sl, h'.get? b = some { o with slots := sl }) (free : ∀ b o, b ∉ ch → s.heap.get? b = some o → H b = none → H' b = none)
    (there : ∀ b o, b ∉ ch → s.heap.get? b = some o → ∃ o', h'.get? b = some o')
    (tups : ∀ b xs, H b = some (.tup xs) → H' b = some (.tup xs)) (frzs : ∀ b o u, H b = some (.frz o u) → H' b = some (.frz o u)) (tbls : ∀ b ps, H b = some (.tbl ps) → ∃ more, H' b = some (.tbl (ps ++ more)))
    (ns : ∀ m, s.heap.Ns X.env.locals m → h'.Ns X.env.locals m) (hok : HOk X.prog X.w H' h') (hg : AllBare g') :
    Inv X pins σ H' { s with heap := h', gens := g', drawn := d', toks := t' } := by
  have neL : ∀ b o, X.s_0.heap.get? b = some o → b ≠ X.env.locals := fun b o e => Nat.ne_of_lt (Nat.lt_of_lt_of_le (Heap.lt_size e) I.ok.above)
  have neC : ∀ b o, X.s_0.heap.get? b = some o → b ∉ X.ex → b ∉ ch := fun b o e hx hb => by
    rcases (hch b hb).1 with z | z
    · exact hx z
    · exact absurd (Nat.lt_of_lt_of_le (Heap.lt_size e) z) (Nat.lt_irrefl _)
  have cellK : ∀ x c, X.env.cells.lookup x = some c → ∀ v, s.heap.IsCell c v → h'.IsCell c v := fun x c e v ⟨o, ho, hd⟩ => by
    have nch : c ∉ ch := fun z => (hch c z).2.2.1 x c e rfl
    by_cases hc : c ∈ X.fs
    · obtain ⟨sl, q⟩ := slot c o (I.cne x c e) hc nch ho (I.freeC x c e)
      exact ⟨_, q, hd⟩
    · exact ⟨o, keep c o (I.cne x c e) hc nch ho (I.freeC x c e), hd⟩
  refine ⟨I.ok, I.os, hg, ⟨fun b o e n hb hx => ?_, fun b o e n hb hx => ?_, fun b o e n hx => ?_, fun b o e hx => ?_, fun b xs e => tups b xs (I.base.tups b xs e), fun b o xs e => frzs b o xs (I.base.frzs b o xs e), fun b ps e => ?_⟩, ?_, fun x c e => ?_, ?_, fun x c e => ?_, fun p hp => ?_, hok, I.len⟩
  · exact keep b o (neL b o e) hb (neC b o e hx) (I.base.keep b o e n hb hx) (I.base.free b o e n hx)
  · obtain ⟨sl, e1⟩ := I.base.slot b o e n hb hx
    obtain ⟨sl', e2⟩ := slot b _ (neL b o e) hb (neC b o e hx) e1 (I.base.free b o e n hx)
    exact ⟨sl', e2⟩
  · obtain ⟨o', e1⟩ := I.base.there b o e hx
    exact free b o' (neC b o e hx) e1 (I.base.free b o e n hx)
  · obtain ⟨o', e1⟩ := I.base.there b o e hx
    exact there b o' (neC b o e hx) e1
  · obtain ⟨m1, e1⟩ := I.base.tbls b ps e
    obtain ⟨m2, e2⟩ := tbls b _ e1
    exact ⟨m1 ++ m2, by rw [e2, Array.append_assoc]⟩
  · obtain ⟨m, hn, hl⟩ := I.loc
    refine ⟨m, ns m hn, fun i x v e1 e2 e3 => ?_⟩
    obtain ⟨u, r, l⟩ := hl i x v e1 e2 e3
    refine ⟨u, r, ?_⟩
    rcases l with l | ⟨k, c, e, z⟩
    · exact .inl l
    · exact .inr ⟨k, c, e, cellK x c e _ z⟩
  · obtain ⟨v, z⟩ := I.cell x c e
    exact ⟨v, cellK x c e v z⟩
  · obtain ⟨m, ⟨o, _, _, ho, _⟩, _⟩ := I.loc
    exact free _ o (fun z => (hch _ z).2.1 rfl) ho I.free
  · obtain ⟨v, o, ho, hd⟩ := I.cell x c e
    exact free c o (fun z => (hch c z).2.2.1 x c e rfl) ho (I.freeC x c e)
  · obtain ⟨e, n, ne, nf, d⟩ := I.pin p hp
    have nch : p.1 ∉ ch := fun z => (hch p.1 z).2.2.2 p hp rfl
    exact ⟨keep p.1 p.2 ne nf nch e n, free p.1 p.2 nch e n, ne, nf, d⟩
/-- .. where the frame's own object is kept too -/
theorem Inv.un {t' : Nat} (I : Inv X pins σ H s) (u : Un X.fs [] H H' s.heap h') (hok : HOk X.prog X.w H' h') : Inv X pins σ H' { s with heap := h', toks := t' } := by
  obtain ⟨m, ⟨o, es, ep, ho, r⟩, _⟩ := id I.loc
  obtain ⟨sl, hL⟩ := u.any ho I.free (by simp)
  exact I.step (g' := s.gens) (d' := s.drawn) (ch := []) (fun _ z => nomatch z) (fun b o _ hb _ e n => u.keep b o e n hb (by simp)) (fun b o _ hb _ e n => u.slot b o e n hb (by simp)) (fun b o _ e n => u.free b o e n (by simp)) (fun b o _ e => u.there b o e (by simp)) u.tups u.frzs u.tbls (fun m' hm => by
    obtain ⟨o', es', ep', ho', r'⟩ := hm
    rw [ho] at ho'; cases ho'
    exact ⟨_, es', ep', hL, r'⟩) hok I.bare
/-- behind a call (or a comprehension's block): the slots of this frame may have changed too, the records at ch may have turned -/
theorem Inv.call {g' : Array GenState} {t' : Nat} {d' : Drawn} {ch : List Addr} (I : Inv X pins σ H s) (u : Un (frs X.stack) ch H H' s.heap h') (hok : HOk X.prog X.w H' h') (hg : AllBare g')
    (hch : ∀ b ∈ ch, (b ∈ X.ex ∨ X.s_0.heap.objs.size ≤ b) ∧ b ≠ X.env.locals ∧ (∀ x c, X.env.cells.lookup x = some c → c ≠ b) ∧ ∀ p ∈ X.pn ++ pins, p.1 ≠ b) :
    Inv X pins σ H' { s with heap := h', gens := g', drawn := d', toks := t' } := by
  obtain ⟨m, ⟨o, es, ep, ho, r⟩, _⟩ := id I.loc
  obtain ⟨sl, hL⟩ := u.any ho I.free fun z => (hch _ z).2.1 rfl
  exact I.step (ch := ch) hch (fun b o hL hb hc e n => u.keep b o e n (fun z => (List.mem_cons.mp (I.stkSub b z)).elim hL hb) hc) (fun b o _ _ hc e n => u.any e n hc) (fun b o hc e n => u.free b o e n hc) (fun b o hc e => u.there b o e hc) u.tups u.frzs u.tbls (fun m' hm => by
    obtain ⟨o', es', ep', ho', r'⟩ := hm
    rw [ho] at ho'; cases ho'
    exact ⟨_, es', ep', hL, r'⟩) hok hg
/-- an untracked record of ours (an iterator) has turned -/
theorem Inv.turned {t' : Nat} {it : Addr} (I : Inv X pins σ H s) (k : ∀ b o, b ≠ it → s.heap.get? b = some o → h'.get? b = some o) (hn : H it = none) (hL : it ≠ X.env.locals)
    (h1 : it ∈ X.ex ∨ X.s_0.heap.objs.size ≤ it) (h2 : ∀ x c, X.env.cells.lookup x = some c → c ≠ it) (h3 : ∀ p ∈ X.pn ++ pins, p.1 ≠ it) : Inv X pins σ H { s with heap := h', toks := t' } := by
  have nit : ∀ b u, H b = some u → b ≠ it := fun b u e z => by rw [z, hn] at e; cases e
  refine I.step (g' := s.gens) (d' := s.drawn) (ch := [it]) (fun b hb => ?_) (fun b o _ _ hc e _ => k b o (fun z => hc (by simp [z])) e) (fun b o _ _ hc e _ => ⟨o.slots, k b o (fun z => hc (by simp [z])) e⟩) (fun _ _ _ _ n => n)
    (fun b o hc e => ⟨o, k b o (fun z => hc (by simp [z])) e⟩) (fun _ _ e => e) (fun _ _ _ e => e) (fun b ps e => ⟨#[], by rw [e]; simp⟩) (fun m hm => ?_) (fun b u e => ?_) I.bare
  · have e : b = it := by simpa using hb
    subst e
    exact ⟨h1, hL, h2, h3⟩
  · obtain ⟨o, es, ep, ho, r⟩ := hm
    exact ⟨o, es, ep, k _ o (Ne.symm hL) ho, r⟩
  · refine (I.hok b u e).stay (fun c v hc q => k c v ?_ q) (fun _ q => q) fun _ _ q => q
    rcases hc with z | z
    · rw [z]; exact nit b u e
    · exact nit c _ z
theorem Inv.tok (I : Inv X pins σ H s) (t : Nat) : Inv X pins σ H { s with toks := t } := I.un (h' := s.heap) (t' := t) Un.refl I.hok
/-- all objects kept -/
theorem Inv.kept {t' : Nat} (I : Inv X pins σ H s) (k : ∀ b u, s.heap.get? b = some u → h'.get? b = some u) : Inv X pins σ H { s with heap := h', toks := t' } := I.un (Un.kept k) (I.hok.kept k)
/-- a new object laid and tracked -/
theorem Inv.laid {a : Addr} {o : HO} {t' : Nat} (I : Inv X pins σ H s) (k : ∀ b u, s.heap.get? b = some u → h'.get? b = some u) (hp : s.heap.objs.size ≤ a) (new : ObjOk X.prog X.w (upd H a o) h' a o) :
    Inv X pins σ (upd H a o) { s with heap := h', toks := t' } := I.un (Un.laid k hp (I.hok.fresh hp)) (I.hok.laid k hp new)
/-- an object written -/
theorem Inv.write {x e : Addr} {o : HO} {t' : Nat} (I : Inv X pins σ H s) (mu : Mut (H x)) (he : e = x ∨ H e = some (.own x)) (k : ∀ b u, b ≠ e → s.heap.get? b = some u → h'.get? b = some u) (heo : ∃ u, h'.get? e = some u)
    (new : ObjOk X.prog X.w (upd H x o) h' x o) : Inv X pins σ (upd H x o) { s with heap := h', toks := t' } := I.un (Un.write mu he k heo) (I.hok.write mu he k heo new)
/-- forgetting slots, pins -/
theorem Inv.weak {σ' : List (Option V)} (I : Inv X pins σ H s) (hl : σ'.length = σ.length) (w : ∀ (i : Nat) v, σ'[i]? = some (some v) → σ[i]? = some (some v)) : Inv X pins σ' H s :=
  ⟨I.ok, I.os, I.bare, I.base, let ⟨m, hn, hl'⟩ := I.loc; ⟨m, hn, fun i x v e1 e2 e3 => hl' i x v e1 (w i v e2) e3⟩, I.cell, I.free, I.freeC, I.pin, I.hok, hl.trans I.len⟩
theorem Inv.pins_of {pins' : List (Addr × Obj)} (I : Inv X pins σ H s) (h : ∀ p ∈ pins', s.heap.get? p.1 = some p.2 ∧ H p.1 = none ∧ p.1 ≠ X.env.locals ∧ p.1 ∉ X.fs ∧ ∀ v, p.2.data ≠ .cell v) : Inv X pins' σ H s :=
  ⟨I.ok, I.os, I.bare, I.base, I.loc, I.cell, I.free, I.freeC, fun p hp => (List.mem_append.mp hp).elim (fun z => I.pin p (List.mem_append_left _ z)) (h p), I.hok, I.len⟩

theorem nodup_ix {N : List Str} (hN : N.Nodup) {i j : Nat} {x : Str} (a : N[i]? = some x) (b : N[j]? = some x) : i = j := by
  obtain ⟨h1, e1⟩ := List.getElem?_eq_some_iff.mp a
  obtain ⟨h2, e2⟩ := List.getElem?_eq_some_iff.mp b
  exact (List.getElem_inj hN).mp (e1.trans e2.symm)

/-- a name is stored; what changed -/
theorem store_ok2 {M : Model} {A : Around} {E : Value → Shared → Prop} {i : Nat} {x : Str} {v : V} {u : Value} {Q : Unit → Shared → Prop} (I : Inv X pins σ H s) (hN : X.N.Nodup) (hi : X.N[i]? = some x) (hx : Loc X.env.scope x) (r : RelV v u)
    (h : ∀ s', Inv X pins (σ.set i (some v)) H s' → (∃ a, Heap.SameBut a s.heap s'.heap ∧ (a = X.env.locals ∨ X.env.cells.lookup x = some a)) → Q () s') (hf : X.fn x = true ∨ X.env.scope.names.lookup x = some .local := by first | exact .inl rfl | exact .inr rfl | assumption) : wpAny M A (storeName X.env x u) Q E s := by
  obtain ⟨m, hn, hl⟩ := id I.loc
  have hcls : (X.env.scope.kind == .class || (X.env.scope.kind == .module && X.env.locals != X.env.globals)) = false := by rw [I.ok.kind]; rfl
  have hiσ : i < σ.length := by rw [I.len]; exact (List.getElem?_eq_some_iff.mp hi).1
  have cne := I.cne
  have tracked : ∀ {a : Addr} {h' : Heap}, (∃ o, s.heap.get? a = some o ∧ H a = none) → Heap.SameBut a s.heap h' → HOk X.prog X.w H h' := fun {a h'} ha hs b ob e => by
    obtain ⟨_, _, hfree⟩ := ha
    refine (I.hok b ob e).stay (fun c w' hc q => (hs.2 c ?_).trans q) (fun _ q => q) fun _ _ q => q
    rintro rfl
    rcases hc with rfl | hc
    · rw [hfree] at e; cases e
    · rw [hfree] at hc; cases hc
  rcases hx with hk | hk
  · refine wpAny_storeName_local hk hn (fun h' hn' hs => ?_) hcls
    obtain ⟨oL, _, _, hoL, _⟩ := id hn
    refine h _ ⟨I.ok, I.os, I.bare, ⟨fun b o e n hb hx => ?_, fun b o e n hb hx => ?_, I.base.free, fun b o e hx => ?_, I.base.tups, I.base.frzs, I.base.tbls⟩, ⟨_, hn', fun j y v' e1 e2 e3 => ?_⟩, fun y c e => ?_, I.free, I.freeC, fun p hp => ?_, tracked ⟨oL, hoL, I.free⟩ hs, by simpa using I.len⟩ ⟨_, hs, .inl rfl⟩
    · exact (hs.2 b (Nat.ne_of_lt (Nat.lt_of_lt_of_le (Heap.lt_size e) I.ok.above))).trans (I.base.keep b o e n hb hx)
    · obtain ⟨sl, e1⟩ := I.base.slot b o e n hb hx
      exact ⟨sl, (hs.2 b (Nat.ne_of_lt (Nat.lt_of_lt_of_le (Heap.lt_size e) I.ok.above))).trans e1⟩
    · obtain ⟨o', e1⟩ := I.base.there b o e hx
      exact ⟨o', (hs.2 b (Nat.ne_of_lt (Nat.lt_of_lt_of_le (Heap.lt_size e) I.ok.above))).trans e1⟩
    · by_cases hj : j = i
      · subst hj
        rw [hi] at e1; cases e1
        rw [List.getElem?_set_self hiσ] at e2
        cases e2
        exact ⟨u, r, .inl ⟨hk, by simp⟩⟩
      · rw [List.getElem?_set_ne (Ne.symm hj)] at e2
        obtain ⟨u', r', q⟩ := hl j y v' e1 e2 e3
        refine ⟨u', r', ?_⟩
        rcases q with ⟨k, e⟩ | ⟨k, c, e, z⟩
        · refine .inl ⟨k, ?_⟩
          have : y ≠ x := fun e => hj (nodup_ix hN e1 (e ▸ hi))
          simp [this, e]
        · exact .inr ⟨k, c, e, z.sameBut hs (cne y c e)⟩
    · obtain ⟨w', z⟩ := I.cell y c e
      exact ⟨w', z.sameBut hs (cne y c e)⟩
    · obtain ⟨e, n, ne, nf, d⟩ := I.pin p hp
      exact ⟨(hs.2 p.1 ne).trans e, n, ne, nf, d⟩
  · have hfn : X.fn x = true := by
      rcases hf with z | z
      · exact z
      · rw [z] at hk; cases hk
    obtain ⟨c, hc⟩ := I.ok.has x (.inl hk)
    obtain ⟨w', z⟩ := I.cell x c hc
    refine wpAny_storeName_cell I.ok.kind hk hc z (fun h' hc' hs => ?_)
    obtain ⟨oc, hoc, hocd⟩ := id z
    refine h { s with heap := h' } ⟨I.ok, I.os, I.bare, ⟨fun b o e n hb hx => ?_, fun b o e n hb hx => ?_, I.base.free, fun b o e hx => ?_, I.base.tups, I.base.frzs, I.base.tbls⟩, ⟨m, hn.sameBut hs (Ne.symm (cne x c hc)), fun j y v' e1 e2 e3 => ?_⟩, fun y c' e => ?_, I.free, I.freeC, fun p hp => ?_, tracked ⟨oc, hoc, I.freeC x c hc⟩ hs, by simpa using I.len⟩ ⟨c, hs, .inr hc⟩
    · exact (hs.2 b (Nat.ne_of_lt (Nat.lt_of_lt_of_le (Heap.lt_size e) (I.ok.cab x c hfn hc)))).trans (I.base.keep b o e n hb hx)
    · obtain ⟨sl, e1⟩ := I.base.slot b o e n hb hx
      exact ⟨sl, (hs.2 b (Nat.ne_of_lt (Nat.lt_of_lt_of_le (Heap.lt_size e) (I.ok.cab x c hfn hc)))).trans e1⟩
    · obtain ⟨o', e1⟩ := I.base.there b o e hx
      exact ⟨o', (hs.2 b (Nat.ne_of_lt (Nat.lt_of_lt_of_le (Heap.lt_size e) (I.ok.cab x c hfn hc)))).trans e1⟩
    · by_cases hj : j = i
      · subst hj
        rw [hi] at e1; cases e1
        rw [List.getElem?_set_self hiσ] at e2
        cases e2
        exact ⟨u, r, .inr ⟨.inl hk, c, hc, hc'⟩⟩
      · rw [List.getElem?_set_ne (Ne.symm hj)] at e2
        obtain ⟨u', r', q⟩ := hl j y v' e1 e2 e3
        refine ⟨u', r', ?_⟩
        rcases q with q | ⟨k, c', e, z'⟩
        · exact .inl q
        · refine .inr ⟨k, c', e, z'.sameBut hs ?_⟩
          rintro rfl
          exact hj (nodup_ix hN e1 (I.ok.inj _ _ _ e hc ▸ hi))
    · by_cases hcc : c' = c
      · subst hcc; exact ⟨_, hc'⟩
      · obtain ⟨w2, z2⟩ := I.cell y c' e
        exact ⟨w2, z2.sameBut hs hcc⟩
    · obtain ⟨e, n, ne, nf, d⟩ := I.pin p hp
      refine ⟨(hs.2 p.1 ?_).trans e, n, ne, nf, d⟩
      intro q
      rw [q, hoc] at e
      have q' : oc = p.2 := Option.some.inj e
      exact d w' (by rw [← q']; exact hocd)
theorem store_ok {M : Model} {A : Around} {E : Value → Shared → Prop} {i : Nat} {x : Str} {v : V} {u : Value} {Q : Unit → Shared → Prop} (I : Inv X pins σ H s) (hN : X.N.Nodup) (hi : X.N[i]? = some x) (hx : Loc X.env.scope x) (r : RelV v u)
    (h : ∀ s', Inv X pins (σ.set i (some v)) H s' → Q () s') (hf : X.fn x = true ∨ X.env.scope.names.lookup x = some .local := by first | exact .inl rfl | exact .inr rfl | assumption) : wpAny M A (storeName X.env x u) Q E s :=
  store_ok2 I hN hi hx r (fun s' I' _ => h s' I') hf
/-- behind a call or a block, the state as it is -/
theorem Inv.call' {s' : Shared} {ch : List Addr} (I : Inv X pins σ H s) (ho : s'.os = s.os) (u : Un (frs X.stack) ch H H' s.heap s'.heap) (hok : HOk X.prog X.w H' s'.heap) (hg : AllBare s'.gens)
    (hch : ∀ b ∈ ch, (b ∈ X.ex ∨ X.s_0.heap.objs.size ≤ b) ∧ b ≠ X.env.locals ∧ (∀ x c, X.env.cells.lookup x = some c → c ≠ b) ∧ ∀ p ∈ X.pn ++ pins, p.1 ≠ b) : Inv X pins σ H' s' := by
  obtain ⟨h', g', d', t', o'⟩ := s'
  have e : o' = s.os := ho
  subst e
  exact I.call (g' := g') (t' := t') (d' := d') u hok hg hch
end

/-- an exception: its class, its own dict's address (where it has one), the abstract heap behind it -/
abbrev XK := Value → Option Addr → Hp → Prop
abbrev St := List (Option V)
abbrev VK := V → Hp → Prop
/-- an expression's reading; a test's; an argument list's -/
abbrev TE := St → Hp → VK → Prop
abbrev TT := St → Hp → (Bool → Hp → Prop) → Prop
abbrev TA := St → Hp → (List V → Hp → Prop) → Prop
/-- what is wanted behind a statement -/
structure Ends where
  nx : St → Hp → Prop
  rt : VK
  bk : St → Hp → Prop := fun _ _ => False
  ct : St → Hp → Prop := fun _ _ => False
abbrev TS := Ends → St → Hp → Prop

def EP (X : Cx) (pins : List (Addr × Obj)) (σ : St) (Q : VK) (u : Value) (s' : Shared) : Prop := ∃ v H', Inv X pins σ H' s' ∧ RelV v u ∧ Q v H'
def TP (X : Cx) (pins : List (Addr × Obj)) (σ : St) (Q : Bool → Hp → Prop) (b : Bool) (s' : Shared) : Prop := ∃ H', Inv X pins σ H' s' ∧ Q b H'
def AP (X : Cx) (pins : List (Addr × Obj)) (σ : St) (Q : List V → Hp → Prop) (us : List Value) (s' : Shared) : Prop := ∃ vs H', Inv X pins σ H' s' ∧ Vals vs us ∧ Q vs H'
def SP (X : Cx) (pins : List (Addr × Obj)) (D : Ends) (f : Flow) (s' : Shared) : Prop :=
  match f with
  | .next => ∃ σ' H', Inv X pins σ' H' s' ∧ D.nx σ' H'
  | .brk => ∃ σ' H', Inv X pins σ' H' s' ∧ D.bk σ' H'
  | .cont => ∃ σ' H', Inv X pins σ' H' s' ∧ D.ct σ' H'
  | .ret u => ∃ v σ' H', Inv X pins σ' H' s' ∧ RelV v u ∧ D.rt v H'

def PE (X : Cx) (e : Expr) (t : TE) : Prop :=
  ∀ (pins : List (Addr × Obj)) (s : Shared) (σ : St) (H : Hp) (Q : VK), Inv X pins σ H s → t σ H Q → wpAny (model X.prog X.w) X.A (eval e X.env) (EP X pins σ Q) X.xe s
def PT (X : Cx) (e : Expr) (t : TT) : Prop :=
  ∀ (pins : List (Addr × Obj)) (s : Shared) (σ : St) (H : Hp) (Q : Bool → Hp → Prop), Inv X pins σ H s → t σ H Q → wpAny (model X.prog X.w) X.A (isTrue e X.env (eval e X.env)) (TP X pins σ Q) X.xe s
/-- a test whatever its 'whole' is (and, or) -/
def PW (X : Cx) (e : Expr) (t : TT) : Prop :=
  ∀ (whole : Sem Value) (pins : List (Addr × Obj)) (s : Shared) (σ : St) (H : Hp) (Q : Bool → Hp → Prop), Inv X pins σ H s → t σ H Q → wpAny (model X.prog X.w) X.A (isTrue e X.env whole) (TP X pins σ Q) X.xe s
theorem PW.pt {X : Cx} {e : Expr} {t : TT} (h : PW X e t) : PT X e t := h _
/-- an argument list (no star), from the left -/
def PA (X : Cx) (es : List Expr) (t : TA) : Prop :=
  ∀ (pos : Pos) (pins : List (Addr × Obj)) (s : Shared) (σ : St) (H : Hp) (Q : List V → Hp → Prop), Inv X pins σ H s → t σ H Q → wpAny (model X.prog X.w) X.A (spliced (backTo pos (starEach es X.env))) (AP X pins σ Q) X.xe s
def PS (X : Cx) (st : Stmt) (t : TS) : Prop :=
  ∀ (pins : List (Addr × Obj)) (s : Shared) (σ : St) (H : Hp) (D : Ends), Inv X pins σ H s → t D σ H → wpAny (model X.prog X.w) X.A (exec st X.env) (SP X pins D) X.xe s
def PSs (X : Cx) (st : List Stmt) (t : TS) : Prop :=
  ∀ (pins : List (Addr × Obj)) (s : Shared) (σ : St) (H : Hp) (D : Ends), Inv X pins σ H s → t D σ H → wpAny (model X.prog X.w) X.A (execs st X.env) (SP X pins D) X.xe s
/-- weaken the end -/
theorem thn {α : Type} {t : Sem α} {Q Q' : α → Shared → Prop} {M : Model} {A : Around} {E : Value → Shared → Prop} {s : Shared} (h : wpAny M A t Q E s) (hQ : ∀ a s, Q a s → Q' a s) : wpAny M A t Q' E s := wpAny_mono h hQ fun _ _ x => x
end L2

namespace L2
open PySem PySem.Spec PyProof.Rows
section
variable {X : Cx}

def tVar (i : Nat) : TE := fun σ H Q => ∃ v, σ[i]? = some (some v) ∧ Q v H
def tC (v : V) : TE := fun _ H Q => Q v H
theorem pe_var {i : Nat} {x : Str} {pos : Pos} (hN : X.N[i]? = some x) (hv : Vis X.env.scope x) (hd : (x == ("__debug__" : Str)) = false := by decide) (hcd : (x == ("__classdict__" : Str)) = false := by decide) : PE X (.Name x pos) (tVar i) := by
  intro pins s σ H Q I h
  obtain ⟨v, e, h⟩ := h
  obtain ⟨m, hn, hl⟩ := I.loc
  obtain ⟨u, r, l⟩ := hl i x v hN e hv
  have fin : EP X pins σ Q u s := ⟨v, H, I, r, h⟩
  rcases l with ⟨hk, hm⟩ | ⟨hk, c, hc, hcell⟩
  · exact wpAny_Name (wpAny_loadName_local I.ok.kind hk hn hm fin) hd
  · rcases hk with hk | hk
    · exact wpAny_Name (wpAny_loadName_cell I.ok.kind hk hc hcell fin) hd
    · exact wpAny_Name (wpAny_loadName_free I.ok.kind hk hc hcell fin hcd) hd
theorem pe_int {i j pos} : PE X (.Constant (.int i) j pos) (tC (.int i)) := fun _ _ _ H _ I h => wpAny_Constant_int ⟨.int i, H, I.tok _, ⟨_, rfl⟩, h⟩
theorem pe_bl {b j pos} : PE X (.Constant (.bool b) j pos) (tC (.bl b)) := fun _ _ _ H _ I h => Constant_bool ⟨.bl b, H, I, rfl, h⟩
theorem pe_str {x j pos} : PE X (.Constant (.str x) j pos) (tC (.str x)) := fun _ _ _ H _ I h => Calls.Constant_str ⟨.str x, H, I.tok _, ⟨_, rfl⟩, h⟩

/-- a global name of the def -/
def Gl (X : Cx) (x : Str) : Prop := X.env.kindOf x = some .globalImplicit
theorem ld_glob {E : Value → Shared → Prop} {pins : List (Addr × Obj)} {s : Shared} {σ : St} {H : Hp} {x : Str} {u : Value} {pos : Pos} {Q : Value → Shared → Prop} (I : Inv X pins σ H s) (hg : Gl X x) (hm : X.mg x = some u) (h : Q u s)
    (hd : (x == ("__debug__" : Str)) = false := by decide) : wpAny (model X.prog X.w) X.A (eval (.Name x pos) X.env) Q E s :=
  Calls.Name_function_global I.ok.kind hg (Calls.loadGlobal_global (by rw [I.ok.glob]; exact I.mod.glob.keeps I.bk) hm h) hd
theorem ld_blt {E : Value → Shared → Prop} {pins : List (Addr × Obj)} {s : Shared} {σ : St} {H : Hp} {x : Str} {u : Value} {pos : Pos} {Q : Value → Shared → Prop} (I : Inv X pins σ H s) (hg : Gl X x) (hm : X.mg x = none) (hv : bootBuiltins x = some u) (h : Q u s)
    (hn : x ≠ "__name__" := by decide) (hd : (x == ("__debug__" : Str)) = false := by decide) : wpAny (model X.prog X.w) X.A (eval (.Name x pos) X.env) Q E s := by
  obtain ⟨mb, h1, h2⟩ := I.mod.blt
  exact Calls.Name_function_global I.ok.kind hg (Calls.loadGlobal_builtin (by rw [I.ok.glob]; exact I.mod.glob.keeps I.bk) hm (by rw [I.ok.blt]; exact h1.keeps I.bk) ((h2 x hn).trans hv) h) hd
theorem pe_bltn {x : Str} {v : V} {u : Value} {pos : Pos} (hg : Gl X x) (hm : X.mg x = none) (hv : bootBuiltins x = some u) (r : RelV v u) (hn : x ≠ "__name__" := by decide) (hd : (x == ("__debug__" : Str)) = false := by decide) : PE X (.Name x pos) (tC v) :=
  fun _ _ _ H _ I h => ld_blt I hg hm hv ⟨v, H, I, r, h⟩ hn hd

variable {a b : Expr} {ta tb : TE} {pos : Pos}
/-- a comparison as a value, as a test -/
def tB (t : TE) : TT := fun σ H Q => t σ H fun x H1 => ∃ c, x = .bl c ∧ Q c H1
/-- an expression whose value is a bool, as a test -/
theorem pt_val {e : Expr} {t : TE} (h : PE X e t) (he : ∀ whole, isTrue e X.env whole = (do let v ← whole; standAt e.pos; holding [v] (truthy v)) := by intro _; rfl) : PT X e (tB t) := by
  intro pins s σ H Q I hw
  refine isTrue_plain (thn (h pins s σ H _ I hw) fun v s1 ⟨x, H1, I1, r1, q1⟩ => ?_) (he _)
  obtain ⟨d, rfl, q⟩ := q1
  cases r1
  exact wpAny_truthy_bool ⟨H1, I1, q⟩

variable {tA tB' : TT} {rest : List Expr}
def tAnd (t u : TT) : TT := fun σ H Q => t σ H fun c H1 => if c = true then u σ H1 Q else Q false H1
def tOr (t u : TT) : TT := fun σ H Q => t σ H fun c H1 => if c = true then Q true H1 else u σ H1 Q
def tNot (t : TT) : TT := fun σ H Q => t σ H fun c H1 => Q (!c) H1
theorem pw_and1 (ha : PT X a tA) : PW X (.BoolOp .And [a] pos) tA := by
  intro wh pins s σ H Q I h
  refine isTrue_and (thn (ha pins s σ H Q I h) fun c s1 e => ?_)
  cases c with
  | true => exact isTrue_and_nil e
  | false => exact e
theorem pw_or1 (ha : PT X a tA) : PW X (.BoolOp .Or [a] pos) tA := by
  intro wh pins s σ H Q I h
  refine isTrue_or (thn (ha pins s σ H Q I h) fun c s1 e => ?_)
  cases c with
  | false => exact isTrue_or_nil e
  | true => exact e
theorem pw_and (ha : PT X a tA) (hb : PW X (.BoolOp .And (b :: rest) pos) tB') : PW X (.BoolOp .And (a :: b :: rest) pos) (tAnd tA tB') := by
  intro wh pins s σ H Q I h
  refine isTrue_and (thn (ha pins s σ H _ I h) fun c s1 ⟨H1, I1, q1⟩ => ?_)
  cases c with
  | true => exact hb wh pins s1 σ H1 Q I1 q1
  | false => exact ⟨H1, I1, q1⟩
theorem pw_or (ha : PT X a tA) (hb : PW X (.BoolOp .Or (b :: rest) pos) tB') : PW X (.BoolOp .Or (a :: b :: rest) pos) (tOr tA tB') := by
  intro wh pins s σ H Q I h
  refine isTrue_or (thn (ha pins s σ H _ I h) fun c s1 ⟨H1, I1, q1⟩ => ?_)
  cases c with
  | true => exact ⟨H1, I1, q1⟩
  | false => exact hb wh pins s1 σ H1 Q I1 q1
theorem pt_not (ha : PT X a tA) : PT X (.UnaryOp .Not a pos) (tNot tA) := by
  intro pins s σ H Q I h
  exact isTrue_not (ha pins s σ H (fun c H1 => Q (!c) H1) I h)
/-- .. as values (bools) -/
def tAndV (ta tb : TE) : TE := fun σ H Q => ta σ H fun x H1 => ∃ c, x = .bl c ∧ if c = true then tb σ H1 Q else Q (.bl false) H1
def tOrV (ta tb : TE) : TE := fun σ H Q => ta σ H fun x H1 => ∃ c, x = .bl c ∧ if c = true then Q (.bl true) H1 else tb σ H1 Q
def tNotV (ta : TE) : TE := fun σ H Q => ta σ H fun x H1 => ∃ c, x = .bl c ∧ Q (.bl (!c)) H1
theorem pe_one {op} {t : TE} (h : PE X a t) : PE X (.BoolOp op [a] pos) t := fun pins s σ H Q I hw => BoolOp_one (h pins s σ H Q I hw)
theorem pe_and (ha : PE X a ta) (hb : PE X (.BoolOp .And (b :: rest) pos) tb) : PE X (.BoolOp .And (a :: b :: rest) pos) (tAndV ta tb) := by
  intro pins s σ H Q I h
  refine BoolOp_and (thn (ha pins s σ H _ I h) fun v s1 ⟨x, H1, I1, r1, q1⟩ => ?_)
  obtain ⟨c, rfl, q1⟩ := q1
  cases r1
  refine wpAny_truthy_bool ?_
  cases c with
  | true => exact hb pins s1 σ H1 Q I1 q1
  | false => exact ⟨.bl false, H1, I1, rfl, q1⟩
theorem pe_not (ha : PE X a ta) : PE X (.UnaryOp .Not a pos) (tNotV ta) := by
  intro pins s σ H Q I h
  refine UnaryOp_ (thn (ha pins s σ H _ I h) fun v s1 ⟨x, H1, I1, r1, q1⟩ => ?_)
  obtain ⟨c, rfl, q1⟩ := q1
  cases r1
  exact not_of (wpAny_truthy_bool ⟨.bl (!c), H1, I1, rfl, q1⟩)
/-- a if t else b -/
def tIf (t : TT) (ta tb : TE) : TE := fun σ H Q => t σ H fun c H1 => if c = true then ta σ H1 Q else tb σ H1 Q
end
end L2

namespace L2
open PySem PySem.Spec PyProof.Rows

def SqL (K : PySem.W.Frag) (H : Hp) (a : Addr) (xs : List V) : Prop :=
  Rd H a (.lst xs) ∨
    ∃ (o : Obj) (its : Array Value) (n : Nat), K.lookup a = some o ∧ o.cls = .type "list" ∧ o.dict = none ∧ o.data = .seq its n ∧ its.size ≤ sizeLine ∧ Vals xs its.toList
def SqT (K : PySem.W.Frag) (H : Hp) (a : Addr) (xs : List V) : Prop :=
  Rd H a (.tup xs) ∨
    ∃ (o : Obj) (its : Array Value) (n : Nat), K.lookup a = some o ∧ o.cls = .type "tuple" ∧ o.data = .seq its n ∧ its.size ≤ sizeLine ∧ Vals xs its.toList
def absV : Value → Option V
  | .none => some .non
  | .bool b => some (.bl b)
  | .int i _ => some (.int i)
  | .str x _ => some (.str x)
  | .bytes b _ => some (.byt b)
  | .float b _ => some (.flt b)
  | .ref a => some (.ref a)
  | .type n => some (.ty n)
  | _ => none
theorem RelV.abs {x : V} {u : Value} (r : RelV x u) : absV u = some x := by
  cases x with
  | non => cases r; rfl
  | bl _ => cases r; rfl
  | int _ => obtain ⟨t, rfl⟩ := r; rfl
  | str _ => obtain ⟨t, rfl⟩ := r; rfl
  | byt _ => obtain ⟨t, rfl⟩ := r; rfl
  | flt _ => obtain ⟨t, rfl⟩ := r; rfl
  | ref _ => cases r; rfl
  | ty _ => cases r; rfl
theorem RelV.inj {x y : V} {u : Value} (r : RelV x u) (q : RelV y u) : x = y := Option.some.inj (r.abs.symm.trans q.abs)
theorem Vals.inj : ∀ {xs ys : List V} {us : List Value}, Vals xs us → Vals ys us → xs = ys
  | _, _, _, .nil, .nil => rfl
  | _, _, _, .cons r t, .cons r' t' => by rw [r.inj r', Vals.inj t t']
section
variable {X : Cx} {pins : List (Addr × Obj)} {σ : St} {H : Hp} {s : Shared} {a : Addr} {xs ys : List V}
theorem SqL.of {K : PySem.W.Frag} (h : H a = some (.lst xs)) : SqL K H a xs := .inl (.inl h)
theorem SqT.of {K : PySem.W.Frag} (h : H a = some (.tup xs)) : SqT K H a xs := .inl (.inl h)
theorem Inv.list (I : Inv X pins σ H s) (h : SqL X.K H a xs) : ∃ its : List Value, Vals xs its ∧ PlainL s.heap a its.toArray ∧ xs.length ≤ sizeLine := by
  rcases h with h | ⟨o, its, n, hk, hc, hd, hs, hz, r⟩
  · obtain ⟨z, its, n, r, e⟩ := h.ok I.hok
    exact ⟨its, r, ⟨_, n, e, rfl, rfl, rfl⟩, z⟩
  · refine ⟨its.toList, r, ⟨o, n, I.kIn a o hk, hc, hd, by simpa using hs⟩, ?_⟩
    have e := r.length
    simp only [Array.length_toList] at e
    omega
theorem Inv.tuple (I : Inv X pins σ H s) (h : SqT X.K H a xs) : ∃ its : List Value, Vals xs its ∧ IsTup s.heap a its.toArray ∧ xs.length ≤ sizeLine := by
  rcases h with h | ⟨o, its, n, hk, hc, hs, hz, r⟩
  · obtain ⟨z, its, r, p⟩ := h.ok I.hok
    exact ⟨its, r, p, z⟩
  · refine ⟨its.toList, r, ⟨o, I.kIn a o hk, hc, n, by simpa using hs⟩, ?_⟩
    have e := r.length
    simp only [Array.length_toList] at e
    omega
theorem Inv.list_inj (I : Inv X pins σ H s) (h : SqL X.K H a xs) (h' : SqL X.K H a ys) : xs = ys := by
  obtain ⟨its, r, ⟨o, n, e, _, _, d⟩, _⟩ := I.list h
  obtain ⟨its', r', ⟨o', n', e', _, _, d'⟩, _⟩ := I.list h'
  rw [e] at e'; cases e'
  rw [d] at d'
  injection d' with d1 _
  have : its = its' := by simpa using congrArg Array.toList d1
  subst this
  exact r.inj r'
end

abbrev Cx.wish (X : Cx) (E : Value → Shared → Prop) : Cx := { X with xe := E }
/-- no exception leaves -/
abbrev Cx.nox (X : Cx) : Cx := X.wish fun _ _ => False
theorem Cx.Ok.wish {X : Cx} (ok : X.Ok) (E : Value → Shared → Prop) : (X.wish E).Ok :=
  ⟨ok.mod, ok.kind, ok.glob, ok.blt, ok.above, ok.inj, ok.has, ok.cab, ok.hd, ok.frames, ok.stk, ok.exf, ok.bs, ok.bsz, ok.noex, ok.exfs, ok.funs, ok.frf⟩
theorem Cx.Ok.unwish {X : Cx} {E : Value → Shared → Prop} (ok : (X.wish E).Ok) : X.Ok :=
  ⟨ok.mod, ok.kind, ok.glob, ok.blt, ok.above, ok.inj, ok.has, ok.cab, ok.hd, ok.frames, ok.stk, ok.exf, ok.bs, ok.bsz, ok.noex, ok.exfs, ok.funs, ok.frf⟩
section
variable {X : Cx} {pins : List (Addr × Obj)} {σ : St} {H : Hp} {s : Shared} {E : Value → Shared → Prop}
theorem Inv.wish (I : Inv X pins σ H s) (E : Value → Shared → Prop) : Inv (X.wish E) pins σ H s := ⟨I.ok.wish E, I.os, I.bare, I.base, I.loc, I.cell, I.free, I.freeC, I.pin, I.hok, I.len⟩
theorem Inv.unwish (I : Inv (X.wish E) pins σ H s) : Inv X pins σ H s := ⟨I.ok.unwish, I.os, I.bare, I.base, I.loc, I.cell, I.free, I.freeC, I.pin, I.hok, I.len⟩
theorem SP.unwish {D : Ends} {f : Flow} {s' : Shared} (h : SP (X.wish E) pins D f s') : SP X pins D f s' := by
  cases f with
  | next => obtain ⟨σ', H', I, q⟩ := h; exact ⟨σ', H', I.unwish, q⟩
  | brk => obtain ⟨σ', H', I, q⟩ := h; exact ⟨σ', H', I.unwish, q⟩
  | cont => obtain ⟨σ', H', I, q⟩ := h; exact ⟨σ', H', I.unwish, q⟩
  | ret u => obtain ⟨v, σ', H', I, r, q⟩ := h; exact ⟨v, σ', H', I.unwish, r, q⟩
theorem PE.nox {e : Expr} {t : TE} (h : PE X.nox e t) : PE X e t := fun pins s σ H Q I hw =>
  wpAny_mono (h pins s σ H Q (I.wish _) hw) (fun _ _ ⟨v, H', I', r, q⟩ => ⟨v, H', I'.unwish, r, q⟩) fun _ _ z => False.elim z
theorem PT.nox {e : Expr} {t : TT} (h : PT X.nox e t) : PT X e t := fun pins s σ H Q I hw =>
  wpAny_mono (h pins s σ H Q (I.wish _) hw) (fun _ _ ⟨H', I', q⟩ => ⟨H', I'.unwish, q⟩) fun _ _ z => False.elim z
theorem PSs.nox {st : List Stmt} {t : TS} (h : PSs X.nox st t) : PSs X st t := fun pins s σ H D I hw =>
  wpAny_mono (h pins s σ H D (I.wish _) hw) (fun _ _ q => q.unwish) fun _ _ z => False.elim z
end

section
variable {X : Cx} {st : Stmt} {rest : List Stmt} {t u : TS} {e : Expr} {te : TE} {pos : Pos}
def tNext : TS := fun D σ H => D.nx σ H
def tSeq (t u : TS) : TS := fun D σ H => t { D with nx := u D } σ H
theorem pss_nil : PSs X [] tNext := fun _ _ σ H _ I h => wpAny_execs_nil ⟨σ, H, I, h⟩
theorem pss_cons (h1 : PS X st t) (h2 : PSs X rest u) : PSs X (st :: rest) (tSeq t u) := by
  intro pins s σ H D I h
  refine wpAny_execs_cons (thn (h1 pins s σ H { D with nx := u D } I h) fun f s1 q => ?_)
  cases f with
  | next =>
    obtain ⟨σ', H', I', q⟩ := q
    exact h2 pins s1 σ' H' D I' q
  | ret v => exact q
  | brk => exact q
  | cont => exact q
theorem pss_one (h1 : PS X st t) : PSs X [st] t := by
  intro pins s σ H D I h
  refine wpAny_execs_cons (thn (h1 pins s σ H D I h) fun f s1 q => ?_)
  cases f with
  | next => exact wpAny_execs_nil q
  | ret v => exact q
  | brk => exact q
  | cont => exact q
/-- in a def's body nothing is shown -/
theorem Inv.quiet {pins : List (Addr × Obj)} {σ : St} {H : Hp} {s : Shared} (I : Inv X pins σ H s) : interactive X.env = false := by simp [interactive, I.ok.kind]
/-- an expression whose value is dropped -/
def tDrop (te : TE) : TS := fun D σ H => te σ H fun _ H1 => D.nx σ H1
theorem ps_expr (he : PE X e te) (hs : swapsWith e none pos.line X.env = pure false := by rfl) : PS X (.Expr e pos) (tDrop te) := by
  intro pins s σ H D I h
  exact wpAny_Expr_any (thn (he pins s σ H _ I h) fun v s1 ⟨x, H1, I1, r1, q1⟩ => ⟨σ, H1, I1, q1⟩) I.quiet hs
def tRet (te : TE) : TS := fun D σ H => te σ H D.rt
theorem ps_ret (he : PE X e te) : PS X (.Return (some e) pos) (tRet te) := by
  intro pins s σ H D I h
  exact wpAny_Return_some (thn (he pins s σ H _ I h) fun v s1 ⟨x, H1, I1, r1, q1⟩ => ⟨x, σ, H1, I1, r1, q1⟩)
def tIfS (c : TT) (t u : TS) : TS := fun D σ H => c σ H fun b H1 => if b = true then t D σ H1 else u D σ H1
theorem ps_if {c : Expr} {a b : List Stmt} {tc : TT} (hc : PT X c tc) (ha : PSs X a t) (hb : PSs X b u) : PS X (.If c a b pos) (tIfS tc t u) := by
  intro pins s σ H D I h
  refine wpAny_If (thn (hc pins s σ H _ I h) fun d s1 ⟨H1, I1, q1⟩ => ?_)
  cases d with
  | true => exact ha pins s1 σ H1 D I1 q1
  | false => exact hb pins s1 σ H1 D I1 q1
end

abbrev TG := V → St → Hp → (St → Hp → Prop) → Prop
abbrev TGs := List V → St → Hp → (St → Hp → Prop) → Prop
def PG (X : Cx) (target : Expr) (t : TG) : Prop :=
  ∀ (pins : List (Addr × Obj)) (s : Shared) (σ : St) (H : Hp) (v : V) (u : Value) (Q : St → Hp → Prop), Inv X pins σ H s → RelV v u → t v σ H Q →
    wpAny (model X.prog X.w) X.A (assign target X.env u) (fun _ s' => ∃ σ' H', Inv X pins σ' H' s' ∧ Q σ' H') X.xe s
/-- several targets, one after another -/
def PGs (X : Cx) (ts : List Expr) (t : TGs) : Prop :=
  ∀ (pins : List (Addr × Obj)) (s : Shared) (σ : St) (H : Hp) (vs : List V) (us : List Value) (Q : St → Hp → Prop), Inv X pins σ H s → Vals vs us → t vs σ H Q →
    wpAny (model X.prog X.w) X.A (assignInOrder ((assignEach ts X.env).map (·.2)) us) (fun _ s' => ∃ σ' H', Inv X pins σ' H' s' ∧ Q σ' H') X.xe s
/-- o[i] = v, by values -/
abbrev TSet := V → V → V → Hp → (Hp → Prop) → Prop
def PSet (X : Cx) (t : TSet) : Prop :=
  ∀ (pins : List (Addr × Obj)) (s : Shared) (σ : St) (H : Hp) (o i v : V) (ov iv u : Value) (Q : Hp → Prop), Inv X pins σ H s → RelV o ov → RelV i iv → RelV v u → t o i v H Q →
    wpAny (model X.prog X.w) X.A (setItem ov iv u) (fun _ s' => ∃ H', Inv X pins σ H' s' ∧ Q H') X.xe s
section
variable {X : Cx} {pos : Pos}
def gName (i : Nat) : TG := fun v σ H Q => Q (σ.set i (some v)) H
theorem pg_name {i : Nat} {x : Str} (hN : X.N.Nodup) (hi : X.N[i]? = some x) (hx : Loc X.env.scope x) (hf : X.fn x = true ∨ X.env.scope.names.lookup x = some .local := by first | exact .inl rfl | exact .inr rfl | assumption) : PG X (.Name x pos) (gName i) := by
  intro pins s σ H v u Q I r h
  exact wpAny_assign_Name (store_ok I hN hi hx r (fun s' I' => ⟨_, H, I', h⟩) hf)
def gNil : TGs := fun vs σ H Q => vs = [] ∧ Q σ H
def gCons (t : TG) (u : TGs) : TGs := fun vs σ H Q => ∃ v r, vs = v :: r ∧ t v σ H fun σ' H' => u r σ' H' Q
theorem pgs_nil : PGs X [] gNil := by
  intro pins s σ H vs us Q I r h
  obtain ⟨e, h⟩ := h
  subst e
  cases r
  exact assignInOrder_nil ⟨σ, H, I, h⟩
theorem pgs_cons {e : Expr} {es : List Expr} {t : TG} {u : TGs} (h1 : PG X e t) (h2 : PGs X es u)
    (hs : (assignEach (e :: es) X.env).map (·.2) = assign e X.env :: (assignEach es X.env).map (·.2) := by rfl) : PGs X (e :: es) (gCons t u) := by
  intro pins s σ H vs us Q I r h
  obtain ⟨v, vr, e1, h⟩ := h
  subst e1
  cases r with
  | cons r rr =>
    rw [hs]
    refine assignInOrder_cons (thn (h1 pins s σ H _ _ _ I r h) fun _ s1 ⟨σ1, H1, I1, q1⟩ => ?_)
    exact h2 pins s1 σ1 H1 _ _ Q I1 rr q1
/-- (a, b, ..) = a tuple of that length -/
def gTup (K : PySem.W.Frag) (n : Nat) (t : TGs) : TG := fun v σ H Q => ∃ a xs, v = .ref a ∧ SqT K H a xs ∧ xs.length = n ∧ t xs σ H Q
theorem pg_tup {es : List Expr} {k : Nat} {t : TGs} {n : Nat} (hc : X.calm = true) (h : PGs X es t)
    (hn : (assignEach es X.env).length = n := by rfl) (hst : (assignEach es X.env).findIdx? (·.1) = none := by rfl) : PG X (.Tuple es k pos) (gTup X.K n t) := by
  intro pins s σ H v u Q I r hw
  obtain ⟨a, xs, e1, hq, hl, hw⟩ := hw
  subst e1
  cases r
  obtain ⟨its, rv, ht, hz⟩ := I.tuple hq
  refine assign_Tuple_tuple (I.ok.hd hc) ht (by simp [hn, ← hl, rv.length]) hst fun h' hx => ?_
  have I1 : Inv X pins σ H { s with heap := h' } := I.kept (t' := s.toks) fun b o e => hx b o (Nat.ne_of_lt (Heap.lt_size e)) e
  exact h pins _ σ H xs _ Q I1 (by simpa using rv) hw
/-- o[i] = .. -/
def gSub (to ti : TE) (t : TSet) : TG := fun v σ H Q => to σ H fun o H1 => ti σ H1 fun i H2 => t o i v H2 fun H3 => Q σ H3
theorem pg_sub {o i : Expr} {to ti : TE} {t : TSet} (ho : PE X o to) (hi : PE X i ti) (hs : PSet X t)
    (ha : ∀ v, assign (.Subscript o i pos) X.env v = (do
      let ov ← holding [v] (eval o X.env)
      let iv ← holding [v, ov] (eval i X.env)
      standAt pos
      holding [v, ov, iv] (setItem ov iv v)
      release [v, ov, iv] []) := by intro _; rfl) : PG X (.Subscript o i pos) (gSub to ti t) := by
  intro pins s σ H v u Q I r h
  rw [ha]
  refine wpAny_bind (wpAny_holding (thn (ho pins s σ H _ I h) fun ov s1 ⟨x, H1, I1, r1, q1⟩ => ?_))
  refine wpAny_bind (wpAny_holding (thn (hi pins s1 σ H1 _ I1 q1) fun iv s2 ⟨y, H2, I2, r2, q2⟩ => ?_))
  refine wpAny_bind (wpAny_standAt (wpAny_bind (wpAny_holding (thn (hs pins s2 σ H2 x y v ov iv u _ I2 r1 r2 r q2) fun _ s3 ⟨H3, I3, q3⟩ => ?_))))
  exact wpAny_release ⟨σ, H3, I3, q3⟩
/-- target = value -/
def tAsg (te : TE) (g : TG) : TS := fun D σ H => te σ H fun x H1 => g x σ H1 D.nx
theorem ps_asg {tg e : Expr} {te : TE} {g : TG} (he : PE X e te) (hg : PG X tg g) (hs : swapsWithSole [tg] e pos.line X.env = pure false := by rfl) (hw : swappedStores [tg] e X.env = pure none := by rfl)
    (h1 : (assignEach [tg] X.env).map (·.2) = [assign tg X.env] := by rfl) : PS X (.Assign [tg] e pos) (tAsg te g) := by
  intro pins s σ H D I h
  refine wpAny_Assign_stores (thn (he pins s σ H _ I h) fun v s1 ⟨x, H1, I1, r1, q1⟩ => ?_) hs hw
  rw [h1]
  exact thn (hg pins s1 σ H1 x v _ I1 r1 q1) fun _ s2 q => q
/-- name = value -/
theorem ps_set {i : Nat} {x : Str} {e : Expr} {te : TE} {pos' : Pos} (hN : X.N.Nodup) (hi : X.N[i]? = some x) (hx : Loc X.env.scope x) (he : PE X e te) (hs : swapsWith e (some (.Name x pos')) pos.line X.env = pure false := by rfl) (hf : X.fn x = true ∨ X.env.scope.names.lookup x = some .local := by first | exact .inl rfl | exact .inr rfl | assumption) :
    PS X (.Assign [.Name x pos'] e pos) (tAsg te (gName i)) := by
  intro pins s σ H D I h
  refine wpAny_Assign_Name (thn (he pins s σ H _ I h) fun v s1 ⟨y, H1, I1, r1, q1⟩ => ?_) hs
  exact store_ok I1 hN hi hx r1 (fun s2 I2 => ⟨_, H1, I2, q1⟩) hf
end

section
variable {X : Cx} {pos : Pos}
/-- the invariant W with its measure -/
def tWhile (c : TT) (tb : TS) : TS := fun D σ H => ∃ W : Nat → St → Hp → Prop, (∃ m, W m σ H) ∧ ∀ m σ H, W m σ H →
  c σ H fun b H1 => if b = true then ∃ N : St → Hp → Prop, (∀ σ' H', N σ' H' → ∃ m', m' < m ∧ W m' σ' H') ∧ tb { D with nx := N, ct := N, bk := D.nx } σ H1 else D.nx σ H1
theorem ps_while {c : Expr} {body : List Stmt} {tc : TT} {tb : TS} (hp : PassesOwn (model X.prog X.w) X.A X.env X.xe) (hc : PT X c tc) (hb : PSs X body tb) : PS X (.While c body [] pos) (tWhile tc tb) := by
  intro pins s σ H D I h
  obtain ⟨W, ⟨m0, w0⟩, turn⟩ := h
  refine wpAny_While (codeAny_whileLoop (fun n s' => ∃ σ' H', Inv X pins σ' H' s' ∧ W n σ' H') ?_ m0 ⟨σ, H, I, w0⟩)
  rintro n s1 ⟨σ1, H1, I1, w1⟩
  refine wpAny_passesOwn hp (thn (hc pins s1 σ1 H1 _ I1 (turn n σ1 H1 w1)) fun b s2 ⟨H2, I2, q2⟩ => ?_)
  cases b with
  | true =>
    obtain ⟨N, hN, q2⟩ := q2
    rw [if_pos rfl]
    refine wpAny_passesOwn hp (thn (hb pins s2 σ1 H2 _ I2 q2) fun f s3 q3 => ?_)
    cases f with
    | next =>
      obtain ⟨σ3, H3, I3, n3⟩ := q3
      obtain ⟨m', hm, w3⟩ := hN σ3 H3 n3
      exact ⟨m', hm, σ3, H3, I3, w3⟩
    | cont =>
      obtain ⟨σ3, H3, I3, n3⟩ := q3
      obtain ⟨m', hm, w3⟩ := hN σ3 H3 n3
      exact ⟨m', hm, σ3, H3, I3, w3⟩
    | brk => exact q3
    | ret v => exact q3
  | false =>
    rw [if_neg Bool.false_ne_true]
    exact wpAny_execs_nil ⟨σ1, H2, I2, q2⟩
end

/-- at turn i: it yields x (the heap may grow), or it stops -/
structure It where
  go : Nat → Hp → Prop
  yld : Nat → Hp → V → Hp → Prop
  stop : Nat → Hp → Prop
/-- the iterator's own objects may turn: they are not the frame's, not pinned, younger than the entry (or a comprehension's own) -/
def FpOk (X : Cx) (pins : List (Addr × Obj)) (H : Hp) (b : Addr) : Prop :=
  H b = none ∧ b ≠ X.env.locals ∧ b ∉ X.fs ∧ (b ∈ X.ex ∨ X.s_0.heap.objs.size ≤ b) ∧ (∀ x c, X.env.cells.lookup x = some c → c ≠ b) ∧ ∀ p ∈ X.pn ++ pins, p.1 ≠ b
theorem Inv.fpOk {X : Cx} {pins : List (Addr × Obj)} {σ : St} {H H' : Hp} {s : Shared} {b : Addr} (I : Inv X pins σ H s) (hb : s.heap.objs.size ≤ b) (hn : H' b = none) : FpOk X pins H' b := by
  refine ⟨hn, Nat.ne_of_gt (Nat.lt_of_lt_of_le I.lt hb), I.nofs hb, .inr (Nat.le_trans I.sz hb), fun x c e z => ?_, fun p hp z => ?_⟩
  · obtain ⟨v, q⟩ := I.cell x c e
    exact absurd (Nat.lt_of_lt_of_le q.lt (by rw [z]; exact hb)) (Nat.lt_irrefl _)
  · exact absurd (Nat.lt_of_lt_of_le (Heap.lt_size (I.pin p hp).1) (by rw [z]; exact hb)) (Nat.lt_irrefl _)
structure Turn (P : Program) (w : World) (K : PySem.W.Frag) (tg : Expr) (J : It) (fp : List Addr) (it : Addr) (tn : Nat → Heap → Prop) : Prop where
  mem : it ∈ fp
  obj : ∀ i h, tn i h → ∀ b ∈ fp, ∃ o, h.get? b = some o ∧ ∀ v, o.data ≠ .cell v
  keep : ∀ i h h', tn i h → (∀ b ∈ fp, ∀ o, h.get? b = some o → h'.get? b = some o) → tn i h'
  item : ∀ (X : Cx), X.prog = P → X.w = w → X.K = K → X.calm = true → ∀ (i : Nat) (pins : List (Addr × Obj)) (s : Shared) (σ : St) (H : Hp) (E : Value → Shared → Prop), Inv X pins σ H s → (∀ b ∈ fp, FpOk X pins H b) → tn i s.heap → J.go i H →
    wpAny (model P w) X.A (pyNext (.ref it)) (fun r s1 => ∃ u, r = some u ∧
      wpAny (model P w) X.A (letOwnedTupleGo tg (.ref it) u) (fun _ s2 => ∃ x H', Inv X pins σ H' s2 ∧ RelV x u ∧ J.yld i H x H' ∧ tn (i + 1) s2.heap ∧ ∀ b ∈ fp, H' b = none) E s1) E s
  done : ∀ (X : Cx), X.prog = P → X.w = w → X.K = K → X.calm = true → ∀ (i : Nat) (pins : List (Addr × Obj)) (s : Shared) (σ : St) (H : Hp) (E : Value → Shared → Prop), Inv X pins σ H s → (∀ b ∈ fp, FpOk X pins H b) → tn i s.heap → J.stop i H →
    wpAny (model P w) X.A (pyNext (.ref it)) (fun r s1 => r = none ∧ Inv X pins σ H s1) E s
  self : ∀ (A : Around) (i : Nat) (s : Shared) (Q : Value → Shared → Prop) (E : Value → Shared → Prop), tn i s.heap → Q (.ref it) s → wpAny (model P w) A (pyIter (.ref it)) Q E s
abbrev TI := St → Hp → (It → Hp → Prop) → Prop
/-- an iterator has come -/
def PIE (X : Cx) (pins : List (Addr × Obj)) (σ : St) (tg : Expr) (R : It → Hp → Prop) (itv : Value) (s2 : Shared) : Prop :=
  ∃ (it : Addr) (fp : List Addr) (tn : Nat → Heap → Prop) (J : It) (H' : Hp), itv = .ref it ∧ Inv X pins σ H' s2 ∧ Turn X.prog X.w X.K tg J fp it tn ∧ tn 0 s2.heap ∧ (∀ b ∈ fp, FpOk X pins H' b) ∧ R J H'
def PI (X : Cx) (tg iter : Expr) (wi : TI) : Prop :=
  ∀ (pins : List (Addr × Obj)) (s : Shared) (σ : St) (H : Hp) (R : It → Hp → Prop), Inv X pins σ H s → wi σ H R →
    wpAny (model X.prog X.w) X.A (eval iter X.env) (fun v s1 => wpAny (model X.prog X.w) X.A (pyIter v) (PIE X pins σ tg R) X.xe s1) X.xe s

/-- the step ahead of the store is nothing for an iterator that keeps no tuple -/
theorem go_of {M : Model} {A : Around} {E : Value → Shared → Prop} {s : Shared} {tg : Expr} {it : Addr} {u : Value} {o : Obj} {n : String} {vs : Array Value} {Q : Unit → Shared → Prop} (ho : s.heap.get? it = some o) (hc : o.cls = .type n) (hd : o.data = .fields vs)
    (hn : ["enumerate", "zip", "dict_itemiterator", "dict_reverseitemiterator", "odict_iterator", "itertools.zip_longest", "itertools.pairwise"].contains n = false) (hQ : Q () s) : wpAny M A (letOwnedTupleGo tg (.ref it) u) Q E s := by
  unfold letOwnedTupleGo
  cases tg <;> first
    | exact wpAny_pure hQ
    | (cases u <;> first
        | exact wpAny_pure hQ
        | (refine wpAny_bind (wpAny_load ho ?_)
           rw [hc, hd]
           show wpAny M A (if (["enumerate", "zip", "dict_itemiterator", "dict_reverseitemiterator", "odict_iterator", "itertools.zip_longest", "itertools.pairwise"].contains n && vs[0]? == some (rawInt _)) = true then _ else _) Q E s
           rw [if_neg (by intro h; rw [hn, Bool.false_and] at h; cases h)]
           exact wpAny_pure hQ))

/-- the list at a, as it stands at each turn (a loop may append to it) -/
def Itl (K : PySem.W.Frag) (a : Addr) : It :=
  ⟨fun i H => ∃ xs x, SqL K H a xs ∧ xs[i]? = some x, fun i H x H' => H' = H ∧ ∀ xs, SqL K H a xs → xs[i]? = some x, fun i H => ∃ xs, SqL K H a xs ∧ xs.length ≤ i⟩
def Itt (K : PySem.W.Frag) (a : Addr) : It :=
  ⟨fun i H => ∃ xs x, SqT K H a xs ∧ xs[i]? = some x, fun i H x H' => H' = H ∧ ∀ xs, SqT K H a xs → xs[i]? = some x, fun i H => ∃ xs, SqT K H a xs ∧ xs.length ≤ i⟩
/-- lo, lo + 1, .. (n of them) -/
def Itr (lo : Int) (n : Nat) : It := ⟨fun i _ => i < n, fun i H x H' => H' = H ∧ x = .int (lo + i), fun i _ => n ≤ i⟩
theorem turn_list {P : Program} {w : World} {K : PySem.W.Frag} {tg : Expr} (a it : Addr) : Turn P w K tg (Itl K a) [it] it (fun i h => h.IsListIter it a i) where
  mem := by simp
  obj := fun i h st b hb => by
    have e : b = it := by simpa using hb
    subst e
    obtain ⟨o, e, c, d⟩ := st
    exact ⟨o, e, fun v z => by rw [d] at z; cases z⟩
  keep := fun i h h' st k => st.at fun o e => k it (by simp) o e
  item := by
    intro X hP hw hK hc i pins s σ H E I hf st hg
    subst hP hw hK
    obtain ⟨xs, x, hq, hx⟩ := hg
    obtain ⟨its, rv, p, hz⟩ := I.list hq
    obtain ⟨u, hu, ru⟩ := rv.get hx
    obtain ⟨f0, f1, f2, f3, f4, f5⟩ := hf it (by simp)
    refine wpAny_pyNext_list_item st p.isList (x := u) (by simpa using hu) fun h' st' sb => ?_
    have I1 : Inv X pins σ H { s with heap := h' } := I.turned (t' := s.toks) (fun b o hb e => (sb.2 b hb).trans e) f0 f1 f3 f4 f5
    obtain ⟨o, e, c, d⟩ := id st'
    exact ⟨u, rfl, go_of (s := { s with heap := h' }) e c d (by decide) ⟨x, H, I1, ru, ⟨rfl, fun ys hy => by rw [I.list_inj hy hq]; exact hx⟩, st', fun b hb => (hf b hb).1⟩⟩
  done := by
    intro X hP hw hK hc i pins s σ H E I hf st hg
    subst hP hw hK
    obtain ⟨xs, hq, hx⟩ := hg
    obtain ⟨its, rv, p, hz⟩ := I.list hq
    obtain ⟨f0, f1, f2, f3, f4, f5⟩ := hf it (by simp)
    have hl := rv.length
    exact wpAny_pyNext_list_end (I.ok.hd hc) st p.isList (by simp; omega) fun h' eb => ⟨rfl, I.turned (t' := s.toks) (fun b o hb e => eb b o hb e) f0 f1 f3 f4 f5⟩
  self := fun _ _ _ _ _ st h => wpAny_pyIter_listiter st h
theorem turn_range {P : Program} {w : World} {K : PySem.W.Frag} {tg : Expr} (it : Addr) (lo : Int) (n : Nat) : Turn P w K tg (Itr lo n) [it] it (fun i h => IsRangeIter h it (lo + (i : Nat) * 1) ((n : Int) - (i : Nat)) 1) where
  mem := by simp
  obj := fun i h st b hb => by
    have e : b = it := by simpa using hb
    subst e
    exact ⟨_, st, fun v z => by
      have z' : Data.fields _ = Data.cell v := z
      cases z'⟩
  keep := fun i h h' st k => k it (by simp) _ st
  item := by
    intro X hP hw hK hc i pins s σ H E I hf st hg
    subst hP hw hK
    obtain ⟨f0, f1, f2, f3, f4, f5⟩ := hf it (by simp)
    have W := Walks.range (prog := X.prog) (w := X.w) (I.ok.hd hc) it lo 1 n
    refine W.item i s _ _ hg st fun v h' tk hv st' kk => ?_
    obtain ⟨t, rfl⟩ := hv
    have I1 : Inv X pins σ H { s with heap := h', toks := tk } := I.turned (fun b o hb e => kk b o (by simpa using hb) e) f0 f1 f3 f4 f5
    refine ⟨_, rfl, go_of (s := { s with heap := h', toks := tk }) (n := "range_iterator") st' rfl rfl (by decide) ⟨.int (lo + i), H, I1, ⟨t, ?_⟩, ⟨rfl, rfl⟩, st', fun b hb => (hf b hb).1⟩⟩
    rw [Int.mul_one]
  done := by
    intro X hP hw hK hc i pins s σ H E I hf st hg
    subst hP hw hK
    obtain ⟨f0, f1, f2, f3, f4, f5⟩ := hf it (by simp)
    exact wpAny_pyNext_range_end (I.ok.hd hc) st (by have : n ≤ i := hg; omega) fun h' eb => ⟨rfl, I.turned (t' := s.toks) (fun b o hb e => eb b o hb e) f0 f1 f3 f4 f5⟩
  self := fun _ _ _ _ _ st h => wpAny_pyIter_rangeiter st h
end L2

namespace L2
open PySem PySem.Spec PyProof.Rows
section
variable {X : Cx} {tg : Expr}
def iList (K : PySem.W.Frag) (tl : TE) : TI := fun σ H R => tl σ H fun x H1 => ∃ a, x = .ref a ∧ (∃ xs, SqL K H1 a xs) ∧ R (Itl K a) H1
def iTup (K : PySem.W.Frag) (tl : TE) : TI := fun σ H R => tl σ H fun x H1 => ∃ a, x = .ref a ∧ (∃ xs, SqT K H1 a xs) ∧ R (Itt K a) H1
theorem pi_list {l : Expr} {tl : TE} (hl : PE X l tl) : PI X tg l (iList X.K tl) := by
  intro pins s σ H R I h
  refine thn (hl pins s σ H _ I h) fun v s1 ⟨x, H1, I1, r1, q1⟩ => ?_
  obtain ⟨a, e, ⟨xs, hq⟩, q⟩ := q1
  subst e
  cases r1
  obtain ⟨its, rv, p, hz⟩ := I1.list hq
  refine wpAny_pyIter_list p.isList ?_
  refine ⟨s1.heap.objs.size, [s1.heap.objs.size], _, _, H1, rfl, I1.kept (t' := s1.toks) fun b o e => Heap.get?_push_of_some _ e, turn_list a _, ⟨_, Heap.get?_push_size _ rfl, rfl, rfl⟩, fun b hb => ?_, q⟩
  have e : b = s1.heap.objs.size := by simpa using hb
  subst e
  exact I1.fpOk (Nat.le_refl _) (I1.hok.fresh (Nat.le_refl _))
/-- a range object just made, walked -/
theorem range_it {pins : List (Addr × Obj)} {σ : St} {H : Hp} {s : Shared} {R : It → Hp → Prop} {E : Value → Shared → Prop} {lo hi : Int} {t u v : Tok} {tk : Nat} (I : Inv X pins σ H s) (h1 : -(2 ^ 62) ≤ lo) (h2 : lo < 2 ^ 62) (h3 : -(2 ^ 62) ≤ hi) (h4 : hi < 2 ^ 62)
    (q : R (Itr lo (hi - lo).toNat) H) : wpAny (model X.prog X.w) X.A (pyIter (.ref s.heap.objs.size)) (PIE X pins σ tg R) E { s with heap := s.heap.push { cls := .type "range", data := .fields #[.int lo t, .int hi u, .int 1 v] }, toks := tk } := by
  refine wpAny_pyIter_range (IsRange.new ..) (small_one h1 h2 h3 h4) ?_
  have I1 : Inv X pins σ H { s with heap := s.heap.push { cls := .type "range", data := .fields #[.int lo t, .int hi u, .int 1 v] }, toks := tk } := I.kept fun b o e => Heap.get?_push_of_some _ e
  refine ⟨(s.heap.push { cls := .type "range", data := .fields #[.int lo t, .int hi u, .int 1 v] }).objs.size, [(s.heap.push { cls := .type "range", data := .fields #[.int lo t, .int hi u, .int 1 v] }).objs.size], _, _, H, rfl,
    I1.kept (t' := tk) fun b o e => Heap.get?_push_of_some _ e, turn_range _ lo (hi - lo).toNat, ?_, fun b hb => ?_, q⟩
  · have e1 : lo + ((0 : Nat) : Int) * 1 = lo := by simp
    have e2 : (((hi - lo).toNat : Nat) : Int) - ((0 : Nat) : Int) = Builtin.Range.rangeSize lo hi 1 := by rw [rangeSize_one]; split <;> omega
    show IsRangeIter _ _ (lo + ((0 : Nat) : Int) * 1) ((((hi - lo).toNat : Nat) : Int) - ((0 : Nat) : Int)) 1
    rw [e1, e2]
    exact Heap.get?_push_size _ rfl
  · have e : b = (s.heap.push { cls := .type "range", data := .fields #[.int lo t, .int hi u, .int 1 v] }).objs.size := by simpa using hb
    subst e
    exact I1.fpOk (Nat.le_refl _) (I1.hok.fresh (Nat.le_refl _))
def iRng1 (ta : TA) : TI := fun σ H R => ta σ H fun vs H1 => ∃ j : Int, vs = [.int j] ∧ -(2 ^ 62) ≤ j ∧ j < 2 ^ 62 ∧ R (Itr 0 j.toNat) H1
def iRng2 (ta : TA) : TI := fun σ H R => ta σ H fun vs H1 => ∃ i j : Int, vs = [.int i, .int j] ∧ (-(2 ^ 62) ≤ i ∧ i < 2 ^ 62 ∧ -(2 ^ 62) ≤ j ∧ j < 2 ^ 62) ∧ R (Itr i (j - i).toNat) H1
theorem pi_range1 {a : Expr} {ta : TA} {p pos : Pos} (hg : Gl X "range") (hm : X.mg "range" = none) (ha : PA X [a] ta) (hs : starEach [a] X.env = [(false, eval a X.env)] := by rfl) : PI X tg (.Call (.Name "range" p) [a] [] pos) (iRng1 ta) := by
  intro pins s σ H R I h
  refine Call_ (ld_blt I hg hm boot_range (PyProof.Rows.callWith_type1 (thn (ha pos pins s σ H _ I h) fun us s1 ⟨vs, H1, I1, r1, q1⟩ => ?_) hs rfl))
  obtain ⟨j, e, q1, q2, q⟩ := q1
  subst e
  cases r1 with
  | cons r rr =>
    cases rr
    obtain ⟨t, rfl⟩ := r
    exact call_range_1 (range_it I1 (by omega) (by omega) q1 q2 (by simpa using q))
/-- W: the invariant by the turn and a measure; N: what the body is to reach -/
def tFor (wi : TI) (g : TG) (tb : TS) : TS := fun D σ H => wi σ H fun J H1 => ∃ W : Nat → Nat → St → Hp → Prop, (∃ m, W 0 m σ H1) ∧ ∀ i m σ H, W i m σ H →
  (J.stop i H ∧ D.nx σ H) ∨ (J.go i H ∧ ∃ N : St → Hp → Prop, (∀ σ' H', N σ' H' → ∃ m', m' < m ∧ W (i + 1) m' σ' H') ∧ ∀ x H', J.yld i H x H' → g x σ H' fun σ2 H2 => tb { D with nx := N, ct := N, bk := D.nx } σ2 H2)
/-- the records at fp as they stand -/
def pinsAt (fp : List Addr) (h : Heap) : List (Addr × Obj) := fp.filterMap fun b => (h.get? b).map fun o => (b, o)
theorem mem_pinsAt {fp : List Addr} {h : Heap} {b : Addr} {o : Obj} (hb : b ∈ fp) (e : h.get? b = some o) : (b, o) ∈ pinsAt fp h := List.mem_filterMap.mpr ⟨b, hb, by rw [e]; rfl⟩
theorem of_pinsAt {fp : List Addr} {h : Heap} {p : Addr × Obj} (hp : p ∈ pinsAt fp h) : p.1 ∈ fp ∧ h.get? p.1 = some p.2 := by
  obtain ⟨b, hb, e⟩ := List.mem_filterMap.mp hp
  cases q : h.get? b with
  | none => rw [q] at e; cases e
  | some o =>
    rw [q] at e
    have e' : (b, o) = p := Option.some.inj e
    subst e'
    exact ⟨hb, q⟩
theorem Inv.pinned {pins : List (Addr × Obj)} {σ : St} {H : Hp} {s : Shared} {fp : List Addr} (I : Inv X pins σ H s) (hf : ∀ b ∈ fp, FpOk X pins H b) (ho : ∀ b ∈ fp, ∃ o, s.heap.get? b = some o ∧ ∀ v, o.data ≠ .cell v) : Inv X (pins ++ pinsAt fp s.heap) σ H s :=
  I.pins_of fun p hp => (List.mem_append.mp hp).elim (fun z => I.pin p (List.mem_append_right _ z)) fun z => by
    obtain ⟨hb, e⟩ := of_pinsAt z
    obtain ⟨f0, f1, f2, _⟩ := hf p.1 hb
    obtain ⟨o, e', d⟩ := ho p.1 hb
    rw [e] at e'; cases e'
    exact ⟨e, f0, f1, f2, d⟩
theorem Inv.unpinned {pins pl : List (Addr × Obj)} {σ : St} {H : Hp} {s : Shared} (I : Inv X (pins ++ pl) σ H s) : Inv X pins σ H s := I.pins_of fun p hp => I.pin p (List.mem_append_right _ (List.mem_append_left _ hp))
theorem ps_for {iter : Expr} {body : List Stmt} {wi : TI} {g : TG} {tb : TS} {pos : Pos} (hp : PassesOwn (model X.prog X.w) X.A X.env X.xe) (hc : X.calm = true) (hi : PI X tg iter wi) (hg : PG X tg g) (hb : PSs X body tb)
    (hs : ∀ x, foldedSetIterable iter X.env x = pure x := by intro _; rfl) : PS X (.For tg iter body [] pos) (tFor wi g tb) := by
  intro pins s σ H D I h
  refine wpAny_For (thn (hi pins s σ H _ I h) fun v s1 h1 => thn h1 fun itv s2 h2 => ?_) hs
  obtain ⟨it, fp, tn, J, H2, e, I2, T, st2, f2, W, ⟨m0, w0⟩, turn⟩ := h2
  subst e
  -- what stays true of the iterator's objects through the loop
  have stat : ∀ {H' : Hp}, (∀ b ∈ fp, H' b = none) → ∀ b ∈ fp, FpOk X pins H' b := fun hn b hb => ⟨hn b hb, (f2 b hb).2⟩
  refine codeAny_forLoop_any (fun n s' => ∃ i σ' H', Inv X pins σ' H' s' ∧ tn i s'.heap ∧ (∀ b ∈ fp, H' b = none) ∧ W i n σ' H') ?_ m0 ⟨0, σ, H2, I2, st2, fun b hb => (f2 b hb).1, w0⟩
  rintro n s3 ⟨i, σ3, H3, I3, st3, fr3, w3⟩
  rcases turn i n σ3 H3 w3 with ⟨stop, qn⟩ | ⟨go, N, hN, step⟩
  · refine wpAny_passesOwn hp (thn (T.done X rfl rfl rfl hc i pins s3 σ3 H3 X.xe I3 (stat fr3) st3 stop) fun r s4 ⟨hr, I4⟩ => ?_)
    subst hr
    exact wpAny_execs_nil ⟨σ3, H3, I4, qn⟩
  · refine wpAny_passesOwn hp (thn (T.item X rfl rfl rfl hc i pins s3 σ3 H3 X.xe I3 (stat fr3) st3 go) fun r s4 ⟨u, hr, h4⟩ => ?_)
    subst hr
    refine wpAny_passesOwn hp (thn h4 fun _ s5 ⟨x, H5, I5, r5, y5, st5, fr5⟩ => ?_)
    have I5' := I5.pinned (stat fr5) (T.obj _ _ st5)
    refine wpAny_passesOwn hp (thn (hg _ s5 σ3 H5 x u _ I5' r5 (step x H5 y5)) fun _ s6 ⟨σ6, H6, I6, q6⟩ => ?_)
    refine wpAny_passesOwn hp (thn (hb _ s6 σ6 H6 _ I6 q6) fun f s7 q7 => ?_)
    have again : ∀ {σ7 : St} {H7 : Hp}, Inv X (pins ++ pinsAt fp s5.heap) σ7 H7 s7 → N σ7 H7 → ∃ m, m < n ∧ ∃ i σ' H', Inv X pins σ' H' s7 ∧ tn i s7.heap ∧ (∀ b ∈ fp, H' b = none) ∧ W i m σ' H' := fun {σ7 H7} I7 n7 => by
      obtain ⟨m', hm, w7⟩ := hN σ7 H7 n7
      refine ⟨m', hm, i + 1, σ7, H7, I7.unpinned, T.keep _ _ _ st5 fun b hb o e => (I7.pin (b, o) (List.mem_append_right _ (List.mem_append_right _ (mem_pinsAt hb e)))).1, fun b hb => ?_, w7⟩
      obtain ⟨o, e, d⟩ := T.obj _ _ st5 b hb
      exact (I7.pin (b, o) (List.mem_append_right _ (List.mem_append_right _ (mem_pinsAt hb e)))).2.1
    cases f with
    | next => obtain ⟨σ7, H7, I7, n7⟩ := q7; exact again I7 n7
    | cont => obtain ⟨σ7, H7, I7, n7⟩ := q7; exact again I7 n7
    | brk => obtain ⟨σ7, H7, I7, q7⟩ := q7; exact ⟨σ7, H7, I7.unpinned, q7⟩
    | ret v => obtain ⟨x7, σ7, H7, I7, r7, q7⟩ := q7; exact ⟨x7, σ7, H7, I7.unpinned, r7, q7⟩
end

/-- over a list that the body leaves as it is -/
theorem for_list {K : PySem.W.Frag} {a : Addr} {xs : List V} {g : TG} {tb : TS} {D : Ends} {σ : St} {H : Hp} (Pv : Nat → St → Hp → Prop) (h0 : Pv 0 σ H) (hl : ∀ i σ H, i ≤ xs.length → Pv i σ H → SqL K H a xs)
    (hs : ∀ i x σ H, xs[i]? = some x → Pv i σ H → g x σ H fun σ2 H2 => tb { D with nx := Pv (i + 1), ct := Pv (i + 1), bk := D.nx } σ2 H2) (hd : ∀ σ H, Pv xs.length σ H → D.nx σ H) :
    ∃ W : Nat → Nat → St → Hp → Prop, (∃ m, W 0 m σ H) ∧ ∀ i m σ H, W i m σ H →
      ((Itl K a).stop i H ∧ D.nx σ H) ∨ ((Itl K a).go i H ∧ ∃ N : St → Hp → Prop, (∀ σ' H', N σ' H' → ∃ m', m' < m ∧ W (i + 1) m' σ' H') ∧ ∀ x H', (Itl K a).yld i H x H' → g x σ H' fun σ2 H2 => tb { D with nx := N, ct := N, bk := D.nx } σ2 H2) := by
  refine ⟨fun i m σ H => m = xs.length - i ∧ i ≤ xs.length ∧ Pv i σ H, ⟨xs.length, by simp, Nat.zero_le _, h0⟩, ?_⟩
  rintro i m σ H ⟨rfl, hi, p⟩
  have q := hl i σ H hi p
  by_cases hlt : i < xs.length
  · refine .inr ⟨⟨xs, xs[i], q, by simp [hlt]⟩, Pv (i + 1), fun σ' H' p' => ⟨xs.length - (i + 1), by omega, rfl, hlt, p'⟩, fun x H' y => ?_⟩
    obtain ⟨e, y⟩ := y
    subst e
    exact hs i x σ _ (y xs q) p
  · have e : i = xs.length := by omega
    subst e
    exact .inl ⟨⟨xs, q, Nat.le_refl _⟩, hd σ H p⟩
theorem for_tup {K : PySem.W.Frag} {a : Addr} {xs : List V} {g : TG} {tb : TS} {D : Ends} {σ : St} {H : Hp} (Pv : Nat → St → Hp → Prop) (h0 : Pv 0 σ H) (hl : ∀ i σ H, i ≤ xs.length → Pv i σ H → SqT K H a xs)
    (hs : ∀ i x σ H, xs[i]? = some x → Pv i σ H → g x σ H fun σ2 H2 => tb { D with nx := Pv (i + 1), ct := Pv (i + 1), bk := D.nx } σ2 H2) (hd : ∀ σ H, Pv xs.length σ H → D.nx σ H) :
    ∃ W : Nat → Nat → St → Hp → Prop, (∃ m, W 0 m σ H) ∧ ∀ i m σ H, W i m σ H →
      ((Itt K a).stop i H ∧ D.nx σ H) ∨ ((Itt K a).go i H ∧ ∃ N : St → Hp → Prop, (∀ σ' H', N σ' H' → ∃ m', m' < m ∧ W (i + 1) m' σ' H') ∧ ∀ x H', (Itt K a).yld i H x H' → g x σ H' fun σ2 H2 => tb { D with nx := N, ct := N, bk := D.nx } σ2 H2) := by
  refine ⟨fun i m σ H => m = xs.length - i ∧ i ≤ xs.length ∧ Pv i σ H, ⟨xs.length, by simp, Nat.zero_le _, h0⟩, ?_⟩
  rintro i m σ H ⟨rfl, hi, p⟩
  have q := hl i σ H hi p
  by_cases hlt : i < xs.length
  · refine .inr ⟨⟨xs, xs[i], q, by simp [hlt]⟩, Pv (i + 1), fun σ' H' p' => ⟨xs.length - (i + 1), by omega, rfl, hlt, p'⟩, fun x H' y => ?_⟩
    obtain ⟨e, y⟩ := y
    subst e
    exact hs i x σ _ (y xs q) p
  · have e : i = xs.length := by omega
    subst e
    exact .inl ⟨⟨xs, q, Nat.le_refl _⟩, hd σ H p⟩
theorem for_range {lo : Int} {n : Nat} {g : TG} {tb : TS} {D : Ends} {σ : St} {H : Hp} (Pv : Nat → St → Hp → Prop) (h0 : Pv 0 σ H)
    (hs : ∀ i σ H, i < n → Pv i σ H → g (.int (lo + i)) σ H fun σ2 H2 => tb { D with nx := Pv (i + 1), ct := Pv (i + 1), bk := D.nx } σ2 H2) (hd : ∀ σ H, Pv n σ H → D.nx σ H) :
    ∃ W : Nat → Nat → St → Hp → Prop, (∃ m, W 0 m σ H) ∧ ∀ i m σ H, W i m σ H →
      ((Itr lo n).stop i H ∧ D.nx σ H) ∨ ((Itr lo n).go i H ∧ ∃ N : St → Hp → Prop, (∀ σ' H', N σ' H' → ∃ m', m' < m ∧ W (i + 1) m' σ' H') ∧ ∀ x H', (Itr lo n).yld i H x H' → g x σ H' fun σ2 H2 => tb { D with nx := N, ct := N, bk := D.nx } σ2 H2) := by
  refine ⟨fun i m σ H => m = n - i ∧ i ≤ n ∧ Pv i σ H, ⟨n, by simp, Nat.zero_le _, h0⟩, ?_⟩
  rintro i m σ H ⟨rfl, hi, p⟩
  by_cases hlt : i < n
  · refine .inr ⟨hlt, Pv (i + 1), fun σ' H' p' => ⟨n - (i + 1), by omega, rfl, hlt, p'⟩, fun x H' y => ?_⟩
    obtain ⟨e, y⟩ := y
    subst e y
    exact hs i σ _ hlt p
  · have e : i = n := by omega
    subst e
    exact .inl ⟨Nat.le_refl _, hd σ H p⟩
end L2

namespace L2
open PySem PySem.Spec PyProof.Rows

abbrev R2 := V → V → Hp → VK → Prop
/-- a two-place operation on values: f is binaryOp op, inplaceOp op or compareOp op -/
def OpR (X : Cx) (f : Value → Value → Sem Value) (r : R2) : Prop :=
  ∀ (pins : List (Addr × Obj)) (s : Shared) (σ : St) (H : Hp) (x y : V) (v u : Value) (Q : VK), Inv X pins σ H s → RelV x v → RelV y u → r x y H Q →
    wpAny (model X.prog X.w) X.A (f v u) (EP X pins σ Q) X.xe s
/-- a one-place operation -/
def UnR (X : Cx) (f : Value → Sem Value) (r : V → Hp → VK → Prop) : Prop :=
  ∀ (pins : List (Addr × Obj)) (s : Shared) (σ : St) (H : Hp) (x : V) (v : Value) (Q : VK), Inv X pins σ H s → RelV x v → r x H Q →
    wpAny (model X.prog X.w) X.A (f v) (EP X pins σ Q) X.xe s
/-- a call of a value that is known (a builtin, a type) with values -/
def CallR (X : Cx) (f : Value) (r : List V → Hp → VK → Prop) : Prop :=
  ∀ (pins : List (Addr × Obj)) (s : Shared) (σ : St) (H : Hp) (xs : List V) (us : List Value) (Q : VK), Inv X pins σ H s → Vals xs us → r xs H Q →
    wpAny (model X.prog X.w) X.A (call f us) (EP X pins σ Q) X.xe s
def tOp (r : R2) (ta tb : TE) : TE := fun σ H Q => ta σ H fun x H1 => tb σ H1 fun y H2 => r x y H2 Q
def tUn (r : V → Hp → VK → Prop) (ta : TE) : TE := fun σ H Q => ta σ H fun x H1 => r x H1 Q
/-- ints in, under C, and a value out -/
def rI (C : Int → Int → Prop) (g : Int → Int → V) : R2 := fun x y H Q => ∃ i j, x = .int i ∧ y = .int j ∧ C i j ∧ Q (g i j) H
def rI0 (g : Int → Int → V) : R2 := fun x y H Q => ∃ i j, x = .int i ∧ y = .int j ∧ Q (g i j) H
def rU (g : Int → V) : V → Hp → VK → Prop := fun x H Q => ∃ i, x = .int i ∧ Q (g i) H

section
variable {X : Cx} {a b c : Expr} {ta tb tc : TE} {pos : Pos}

theorem binT (ha : PE X a ta) (hb : PE X b tb) {pins : List (Addr × Obj)} {s : Shared} {σ : St} {H : Hp} {R : V → V → Hp → Prop} (I : Inv X pins σ H s)
    (h : ta σ H fun x H1 => tb σ H1 fun y H2 => R x y H2) {Q : Value → Shared → Prop} {f : Value → Value → Sem Value}
    (hf : ∀ v u s2 x y H2, Inv X pins σ H2 s2 → RelV x v → RelV y u → R x y H2 → wpAny (model X.prog X.w) X.A (f v u) Q X.xe s2) :
    wpAny (model X.prog X.w) X.A (eval a X.env) (fun v s₁ => wpAny (model X.prog X.w) X.A (eval b X.env) (fun u s₂ => wpAny (model X.prog X.w) X.A (f v u) Q X.xe s₂) X.xe s₁) X.xe s := by
  refine thn (ha pins s σ H _ I h) fun v s1 ⟨x, H1, I1, r1, q1⟩ => ?_
  refine thn (hb pins s1 σ H1 _ I1 q1) fun u s2 ⟨y, H2, I2, r2, q2⟩ => ?_
  exact hf v u s2 x y H2 I2 r1 r2 q2

theorem pe_op {op : Operator} {r : R2} (ho : OpR X (binaryOp op) r) (ha : PE X a ta) (hb : PE X b tb) : PE X (.BinOp a op b pos) (tOp r ta tb) := by
  intro pins s σ H Q I h
  exact wpAny_BinOp (binT ha hb I h fun v u s2 x y H2 I2 rx ry q => ho pins s2 σ H2 x y v u Q I2 rx ry q)
theorem pe_un {op : UnaryOp} {r : V → Hp → VK → Prop} (ho : UnR X (unaryOp op) r) (ha : PE X a ta) : PE X (.UnaryOp op a pos) (tUn r ta) := by
  intro pins s σ H Q I h
  exact UnaryOp_ (thn (ha pins s σ H _ I h) fun v s1 ⟨x, H1, I1, r1, q1⟩ => ho pins s1 σ H1 x v Q I1 r1 q1)
theorem opI {f : Value → Value → Sem Value} {C : Int → Int → Prop} {g : Int → Int → Int}
    (rule : ∀ (i j : Int) (t u : Tok) (s : Shared) (Q : Value → Shared → Prop) (E : Value → Shared → Prop), C i j → Q (.int (g i j) s.toks) { s with toks := s.toks + 1 } → wpAny (model X.prog X.w) X.A (f (.int i t) (.int j u)) Q E s) :
    OpR X f (rI C fun i j => .int (g i j)) := by
  intro pins s σ H x y v u Q I rx ry h
  obtain ⟨i, j, rfl, rfl, hc, q⟩ := h
  obtain ⟨t, rfl⟩ := rx
  obtain ⟨t', rfl⟩ := ry
  exact rule i j t t' s _ _ hc ⟨.int (g i j), H, I.tok _, ⟨_, rfl⟩, q⟩
theorem opI0 {f : Value → Value → Sem Value} {g : Int → Int → Int}
    (rule : ∀ (i j : Int) (t u : Tok) (s : Shared) (Q : Value → Shared → Prop) (E : Value → Shared → Prop), Q (.int (g i j) s.toks) { s with toks := s.toks + 1 } → wpAny (model X.prog X.w) X.A (f (.int i t) (.int j u)) Q E s) :
    OpR X f (rI0 fun i j => .int (g i j)) := by
  intro pins s σ H x y v u Q I rx ry h
  obtain ⟨i, j, rfl, rfl, q⟩ := h
  obtain ⟨t, rfl⟩ := rx
  obtain ⟨t', rfl⟩ := ry
  exact rule i j t t' s _ _ ⟨.int (g i j), H, I.tok _, ⟨_, rfl⟩, q⟩
theorem opB0 {f : Value → Value → Sem Value} {g : Int → Int → Bool}
    (rule : ∀ (i j : Int) (t u : Tok) (s : Shared) (Q : Value → Shared → Prop) (E : Value → Shared → Prop), Q (.bool (g i j)) s → wpAny (model X.prog X.w) X.A (f (.int i t) (.int j u)) Q E s) :
    OpR X f (rI0 fun i j => .bl (g i j)) := by
  intro pins s σ H x y v u Q I rx ry h
  obtain ⟨i, j, rfl, rfl, q⟩ := h
  obtain ⟨t, rfl⟩ := rx
  obtain ⟨t', rfl⟩ := ry
  exact rule i j t t' s _ _ ⟨.bl (g i j), H, I, rfl, q⟩

def CDiv (i j : Int) : Prop := 0 < j ∧ j < 1073741824
def CPow (i j : Int) : Prop := 0 ≤ j ∧ j ≤ 1000000 ∧ i.natAbs < 2 ^ 64
def CMul (i j : Int) : Prop := (-(2 ^ 64) < i ∧ i < 2 ^ 64) ∨ (-(2 ^ 64) < j ∧ j < 2 ^ 64)
theorem CMul.ok {i j : Int} (h : CMul i j) : IntMulOk i j := by
  rcases h with ⟨h1, h2⟩ | ⟨h1, h2⟩
  · exact .of_left (intBits_le_64 h1 h2)
  · exact .of_right (intBits_le_64 h1 h2)
theorem two_pow_nn (k : Nat) : (0 : Int) ≤ 2 ^ k := by
  rw [two_pow_cast]
  exact Int.natCast_nonneg _

theorem op_add : OpR X (binaryOp .Add) (rI0 fun i j => .int (i + j)) := opI0 fun _ _ _ _ _ _ _ q => add_int q
theorem op_sub : OpR X (binaryOp .Sub) (rI0 fun i j => .int (i - j)) := opI0 fun _ _ _ _ _ _ _ q => sub_int q
theorem op_mul : OpR X (binaryOp .Mult) (rI CMul fun i j => .int (i * j)) := opI fun _ _ _ _ _ _ _ hc q => mul_int q hc.ok
/-- % by a positive divisor of any size -/
theorem op_mod : OpR X (binaryOp .Mod) (rI (fun _ j => 0 < j) fun i j => .int (i % j)) := opI fun i j _ _ _ _ _ hc q => by
  have h1 : (0 : Int) < j := hc
  exact mod_int' (by omega) (by rw [Int.fmod_eq_emod_of_nonneg i (by omega)]; exact q)
theorem op_pow : OpR X (binaryOp .Pow) (rI CPow fun i j => .int (i ^ j.toNat)) := opI fun _ _ _ _ _ _ _ hc q => pow_int_small hc.1 hc.2.1 hc.2.2 q
theorem op_shr : OpR X (binaryOp .RShift) (rI (fun _ j => 0 ≤ j) fun i j => .int (i / 2 ^ j.toNat)) := opI fun i j _ _ _ _ _ hc q =>
  rshift_int hc (by rw [Int.fdiv_eq_ediv_of_nonneg i (two_pow_nn _)]; exact q)
theorem op_and : OpR X (binaryOp .BitAnd) (rI0 fun i j => .int (Builtin.bitAnd i j)) := opI0 fun _ _ _ _ _ _ _ q => and_int q
theorem unI {f : Value → Sem Value} {g : Int → Int}
    (rule : ∀ (i : Int) (t : Tok) (s : Shared) (Q : Value → Shared → Prop) (E : Value → Shared → Prop), Q (.int (g i) s.toks) { s with toks := s.toks + 1 } → wpAny (model X.prog X.w) X.A (f (.int i t)) Q E s) :
    UnR X f (rU fun i => .int (g i)) := by
  intro pins s σ H x v Q I rx h
  obtain ⟨i, rfl, q⟩ := h
  obtain ⟨t, rfl⟩ := rx
  exact rule i t s _ _ ⟨.int (g i), H, I.tok _, ⟨_, rfl⟩, q⟩
theorem un_neg : UnR X (unaryOp .USub) (rU fun i => .int (-i)) := unI fun _ _ _ _ _ q => neg_int q
end

/-- the scalars that == tells apart as data does -/
def scal : V → V → Bool
  | .non, .non => true | .non, .int _ => true | .int _, .non => true | .non, .bl _ => true | .bl _, .non => true | .non, .str _ => true | .str _, .non => true
  | .int _, .int _ => true | .bl _, .bl _ => true | .str _, .str _ => true | .byt _, .byt _ => true
  | .int _, .str _ => true | .str _, .int _ => true | .bl _, .str _ => true | .str _, .bl _ => true
  | _, _ => false
def rEq : R2 := fun x y H Q => scal x y = true ∧ Q (.bl (decide (x = y))) H
def rNe : R2 := fun x y H Q => scal x y = true ∧ Q (.bl (!decide (x = y))) H

theorem dec_int {i j : Int} : decide (V.int i = V.int j) = (i == j) := by
  rw [Bool.eq_iff_iff]
  simp
theorem dec_bl {i j : Bool} : decide (V.bl i = V.bl j) = (i == j) := by
  rw [Bool.eq_iff_iff]
  simp
theorem dec_str {i j : Str} : decide (V.str i = V.str j) = (i == j) := by
  rw [Bool.eq_iff_iff]
  simp
theorem dec_byt {i j : Array UInt8} : decide (V.byt i = V.byt j) = (i.toList == j.toList) := by
  rw [Bool.eq_iff_iff]
  cases i
  cases j
  simp

section
variable {X : Cx} {a b c : Expr} {ta tb tc : TE} {pos : Pos}
theorem fin_bl {pins : List (Addr × Obj)} {σ : St} {H : Hp} {s : Shared} {Q : VK} {k k' : Bool} (I : Inv X pins σ H s) (q : Q (.bl k) H) (e : k = k') : EP X pins σ Q (.bool k') s := by
  subst e
  exact ⟨.bl k, H, I, rfl, q⟩
theorem op_ne : OpR X (compareOp .NotEq) rNe := by
  intro pins s σ H x y v u Q I rx ry h
  obtain ⟨hs, q⟩ := h
  cases x with
  | non =>
    cases rx
    cases y with
    | non => cases ry; exact PySem.EqNone.ne_none_none (fin_bl I q (by simp))
    | bl j => cases ry; exact PySem.EqNone.ne_none_bool (fin_bl I q (by simp))
    | int j => obtain ⟨t', rfl⟩ := ry; exact PySem.EqNone.ne_none_int (fin_bl I q (by simp))
    | str j => obtain ⟨t', rfl⟩ := ry; exact PySem.EqNone.ne_none_str (fin_bl I q (by simp))
    | _ => exact absurd (show false = true from hs) Bool.false_ne_true
  | bl i =>
    cases rx
    cases y with
    | non => cases ry; exact PySem.EqNone.ne_bool_none (fin_bl I q (by simp))
    | bl j => cases ry; exact ne_bool (fin_bl I q (congrArg not dec_bl))
    | str j => obtain ⟨t', rfl⟩ := ry; exact PySem.EqMixed.ne_bool_str (fin_bl I q (by simp))
    | _ => exact absurd (show false = true from hs) Bool.false_ne_true
  | int i =>
    obtain ⟨t, rfl⟩ := rx
    cases y with
    | non => cases ry; exact PySem.EqNone.ne_int_none (fin_bl I q (by simp))
    | int j => obtain ⟨t', rfl⟩ := ry; exact ne_int (fin_bl I q (congrArg not dec_int))
    | str j => obtain ⟨t', rfl⟩ := ry; exact PySem.EqMixed.ne_int_str (fin_bl I q (by simp))
    | _ => exact absurd (show false = true from hs) Bool.false_ne_true
  | str i =>
    obtain ⟨t, rfl⟩ := rx
    cases y with
    | non => cases ry; exact PySem.EqNone.ne_str_none (fin_bl I q (by simp))
    | bl j => cases ry; exact PySem.EqMixed.ne_str_bool (fin_bl I q (by simp))
    | int j => obtain ⟨t', rfl⟩ := ry; exact PySem.EqMixed.ne_str_int (fin_bl I q (by simp))
    | str j => obtain ⟨t', rfl⟩ := ry; exact ne_str (fin_bl I q (congrArg not dec_str))
    | _ => exact absurd (show false = true from hs) Bool.false_ne_true
  | byt i =>
    obtain ⟨t, rfl⟩ := rx
    cases y with
    | byt j => obtain ⟨t', rfl⟩ := ry; exact PySem.W.ne_bytes (fin_bl I q (congrArg not dec_byt))
    | _ => exact absurd (show false = true from hs) Bool.false_ne_true
  | _ => cases y <;> exact absurd (show false = true from hs) Bool.false_ne_true

theorem op_lt : OpR X (compareOp .Lt) (rI0 fun i j => .bl (decide (i < j))) := opB0 fun _ _ _ _ _ _ _ q => lt_int q
theorem op_le : OpR X (compareOp .LtE) (rI0 fun i j => .bl (decide (i ≤ j))) := opB0 fun _ _ _ _ _ _ _ q => le_int q
theorem op_gt : OpR X (compareOp .Gt) (rI0 fun i j => .bl (decide (j < i))) := opB0 fun _ _ _ _ _ _ _ q => gt_int q
theorem op_ge : OpR X (compareOp .GtE) (rI0 fun i j => .bl (decide (j ≤ i))) := opB0 fun _ _ _ _ _ _ _ q => ge_int q
theorem nomark (b : Expr) {op : CmpOp} (h : op ≠ .In := by decide) (h2 : op ≠ .NotIn := by decide) : behindInMarks op b = false := by
  have e1 : (op == CmpOp.In) = false := by cases op <;> first | rfl | exact absurd rfl h
  have e2 : (op == CmpOp.NotIn) = false := by cases op <;> first | rfl | exact absurd rfl h2
  cases b <;> simp [behindInMarks, e1, e2]
/-- a comparison as a value; hm: nomark b, or (for in, not in) by with_unfolding_all rfl -/
theorem pe_cmpR {op : CmpOp} {r : R2} (ho : OpR X (compareOp op) r) (ha : PE X a ta) (hb : PE X b tb) (hm : behindInMarks op b = false) : PE X (.Compare a [op] [b] pos) (tOp r ta tb) := by
  intro pins s σ H Q I h
  exact wpAny_Compare1 (binT ha hb I h fun v u s2 x y H2 I2 rx ry q => ho pins s2 σ H2 x y v u Q I2 rx ry q) hm
/-- a reading of a value as a test -/
def tTest (t : TE) : TT := fun σ H Q => t σ H fun x H' => ∃ k, x = .bl k ∧ Q k H'
theorem pt_cmpR {op : CmpOp} {r : R2} (ho : OpR X (compareOp op) r) (ha : PE X a ta) (hb : PE X b tb) (hm : behindInMarks op b = false) : PT X (.Compare a [op] [b] pos) (tTest (tOp r ta tb)) := by
  intro pins s σ H Q I h
  refine wpAny_isTrue_Compare1 (thn (ha pins s σ H _ I h) fun v s1 ⟨x, H1, I1, r1, q1⟩ => thn (hb pins s1 σ H1 _ I1 q1) fun u s2 ⟨y, H2, I2, r2, q2⟩ =>
    thn (ho pins s2 σ H2 x y v u _ I2 r1 r2 q2) fun c s3 ⟨z, H3, I3, r3, k, e, q3⟩ => ?_) hm
  subst e
  cases r3
  exact wpAny_truthy_bool ⟨H3, I3, q3⟩
/-- a op1 b op2 c -/
def tChain (r r' : R2) (ta tb tc : TE) : TE := fun σ H Q => ta σ H fun x H1 => tb σ H1 fun y H2 => r x y H2 fun z H3 => ∃ k, z = .bl k ∧
  (if k = true then tc σ H3 fun w' H4 => r' y w' H4 Q else Q (.bl false) H3)
theorem pe_chain {op op' : CmpOp} {r r' : R2} (ho : OpR X (compareOp op) r) (ho' : OpR X (compareOp op') r') (ha : PE X a ta) (hb : PE X b tb) (hc : PE X c tc)
    (hm : lastMarks [op, op'] [b, c] = false := by with_unfolding_all rfl) : PE X (.Compare a [op, op'] [b, c] pos) (tChain r r' ta tb tc) := by
  intro pins s σ H Q I h
  refine Compare_chain (thn (ha pins s σ H _ I h) fun v s1 ⟨x, H1, I1, r1, q1⟩ => chain_link (thn (hb pins s1 σ H1 _ I1 q1) fun u s2 ⟨y, H2, I2, r2, q2⟩ =>
    thn (ho pins s2 σ H2 x y v u _ I2 r1 r2 q2) fun d s3 ⟨z, H3, I3, r3, k, e, q3⟩ => ?_)) hm
  subst e
  cases r3
  refine wpAny_truthy_bool ?_
  cases k with
  | false => exact ite_ff ⟨.bl false, H3, I3, rfl, q3⟩
  | true => exact ite_tt (chain_last (thn (hc pins s3 σ H3 _ I3 q3) fun w' s4 ⟨z', H4, I4, r4, q4⟩ => ho' pins s4 σ H4 y z' u w' Q I4 r2 r4 q4))
theorem line63 : (sizeLine : Nat) < 2 ^ 63 := by rw [sizeLine_eq]; decide
theorem op_add_str : OpR X (binaryOp .Add) (fun x y H Q => ∃ i j, x = .str i ∧ y = .str j ∧ i.length + j.length ≤ sizeLine ∧ Q (.str (i ++ j)) H) := by
  intro pins s σ H x y v u Q I rx ry h
  obtain ⟨i, j, rfl, rfl, hz, q⟩ := h
  obtain ⟨t, rfl⟩ := rx
  obtain ⟨t', rfl⟩ := ry
  exact add_str (fun t' tk => ⟨.str (i ++ j), H, I.tok _, ⟨_, rfl⟩, q⟩) hz
theorem vals1 {x : V} {us : List Value} (r : Vals [x] us) : ∃ u, us = [u] ∧ RelV x u := by
  cases r with
  | cons r1 r2 => cases r2; exact ⟨_, rfl, r1⟩
theorem vals2 {x y : V} {us : List Value} (r : Vals [x, y] us) : ∃ u w', us = [u, w'] ∧ RelV x u ∧ RelV y w' := by
  cases r with
  | cons r1 r2 =>
    cases r2 with
    | cons r3 r4 => cases r4; exact ⟨_, _, rfl, r1, r3⟩
theorem call_abs : CallR X (.builtin "abs") (fun xs H Q => ∃ i, xs = [.int i] ∧ Q (.int (if i < 0 then -i else i)) H) := by
  intro pins s σ H xs us Q I r h
  obtain ⟨i, rfl, q⟩ := h
  obtain ⟨u, rfl, t, rfl⟩ := vals1 r
  exact call_abs_int fun u tk => ⟨.int (if i < 0 then -i else i), H, I.tok _, ⟨_, rfl⟩, q⟩
theorem call_min2 (hc : X.calm = true) : CallR X (.builtin "min") (fun xs H Q => ∃ i j, xs = [.int i, .int j] ∧ Q (.int (if j < i then j else i)) H) := by
  intro pins s σ H xs us Q I r h
  obtain ⟨i, j, rfl, q⟩ := h
  obtain ⟨u, w', rfl, ⟨t, rfl⟩, ⟨t', rfl⟩⟩ := vals2 r
  refine min_two_ints (I.ok.hd hc) fun h' tk k => ⟨_, H, I.kept k, ?_, q⟩
  by_cases hj : j < i
  · rw [if_pos hj, if_pos hj]; exact ⟨_, rfl⟩
  · rw [if_neg hj, if_neg hj]; exact ⟨_, rfl⟩
theorem call_int1 : CallR X (.type "int") (fun xs H Q => (∃ i, xs = [.int i] ∧ Q (.int i) H) ∨ ∃ k, xs = [.bl k] ∧ Q (.int (if k then 1 else 0)) H) := by
  intro pins s σ H xs us Q I r h
  rcases h with ⟨i, rfl, q⟩ | ⟨k, rfl, q⟩
  · obtain ⟨u, rfl, t, rfl⟩ := vals1 r
    exact call_int_int ⟨.int i, H, I, ⟨_, rfl⟩, q⟩
  · obtain ⟨u, rfl, r1⟩ := vals1 r
    cases r1
    exact call_int_bool ⟨.int (if k then 1 else 0), H, I.tok _, ⟨_, rfl⟩, q⟩
theorem call_str_int : CallR X (.type "str") (fun xs H Q => ∃ i, xs = [.int i] ∧ i.natAbs.log2 < 1920 ∧ Q (.str (toString i)) H) := by
  intro pins s σ H xs us Q I r h
  obtain ⟨i, rfl, hz, q⟩ := h
  obtain ⟨u, rfl, t, rfl⟩ := vals1 r
  exact PySem.P.str_of_int hz ⟨.str _, H, I.tok _, ⟨_, rfl⟩, q⟩
/-- len of a str, a bytes, a list, a tuple -/
def LenV (K : PySem.W.Frag) (x : V) (H : Hp) (n : Nat) : Prop :=
  match x with
  | .str y => y.length ≤ sizeLine ∧ n = y.length
  | .byt y => y.size ≤ sizeLine ∧ n = y.size
  | .ref p => (∃ xs, SqL K H p xs ∧ n = xs.length) ∨ ∃ xs, SqT K H p xs ∧ n = xs.length
  | _ => False
theorem call_len : CallR X (.builtin "len") (fun xs H Q => ∃ x n, xs = [x] ∧ LenV X.K x H n ∧ Q (.int n) H) := by
  intro pins s σ H xs us Q I r h
  obtain ⟨x, n, rfl, e, q⟩ := h
  obtain ⟨u, rfl, rx⟩ := vals1 r
  have hl := line63
  have hs : sizeLine = 16777216 := sizeLine_eq
  cases x with
  | str y =>
    obtain ⟨t, rfl⟩ := rx
    obtain ⟨hy, e'⟩ : y.length ≤ sizeLine ∧ n = y.length := e
    subst e'
    exact len_str (by omega) ⟨.int _, H, I.tok _, ⟨_, rfl⟩, q⟩
  | byt y =>
    obtain ⟨t, rfl⟩ := rx
    obtain ⟨hy, e'⟩ : y.size ≤ sizeLine ∧ n = y.size := e
    subst e'
    exact PySem.W.len_bytes (by omega) ⟨.int _, H, I.tok _, ⟨_, rfl⟩, q⟩
  | ref p =>
    cases rx
    have e' : (∃ xs, SqL X.K H p xs ∧ n = xs.length) ∨ ∃ xs, SqT X.K H p xs ∧ n = xs.length := e
    rcases e' with ⟨xs, hx, e'⟩ | ⟨xs, hx, e'⟩
    · subst e'
      obtain ⟨its, r', pl, hz⟩ := I.list hx
      have hlen := r'.length
      exact Calls.call_len_list pl.isList (by simp only [List.size_toArray]; omega) ⟨.int xs.length, H, I.tok _, ⟨_, by simp only [List.size_toArray]; rw [hlen]⟩, q⟩
    · subst e'
      obtain ⟨its, r', pl, hz⟩ := I.tuple hx
      have hlen := r'.length
      exact len_tuple pl (by simp only [List.size_toArray]; omega) ⟨.int xs.length, H, I.tok _, ⟨_, by simp only [List.size_toArray]; rw [hlen]⟩, q⟩
  | _ => exact (show False from e).elim
end
end L2

namespace L2
open PySem PySem.Spec PyProof.Rows

structure ObjM (h : Heap) (x dx C : Addr) (mA : Str → Option Value) : Prop where
  obj : h.get? x = some (PySem.W.instObj C dx)
  ns : h.Ns1 dx mA
  ne : dx ≠ x

theorem lookIn_ns {h : Heap} {dx : Addr} {mA : Str → Option Value} (n : h.Ns1 dx mA) : ∃ od, h.get? dx = some od ∧ ∀ name, PySem.W.lookIn name od = some (mA name) := by
  obtain ⟨o, es, ep, ho, hd, hk, _, hm⟩ := n
  refine ⟨o, ho, fun name => ?_⟩
  have e := hm name
  unfold nsFind findBy at e
  rw [← Array.find?_toList] at e
  unfold PySem.W.lookIn
  rw [hd]
  dsimp only
  split
  · rename_i y q
    rw [q] at e
    exact congrArg some e
  · rename_i q
    rw [q] at e
    have a : es.toList.any (·.refKey) = false := by
      rw [List.any_eq_false]
      intro y hy
      obtain ⟨z, t, hkey⟩ := hk y (Array.mem_toList_iff.mp hy)
      simp [DictEntry.refKey, hkey]
    have a' : ¬ es.toList.any (·.refKey) = true := by rw [a]; exact Bool.false_ne_true
    rw [if_neg a']
    exact congrArg some e

theorem ObjM.look {h : Heap} {x dx C : Addr} {mA : Str → Option Value} (I : ObjM h x dx C mA) : ∃ od, PySem.W.InstAt h x (PySem.W.instObj C dx) C (some od) ∧ ∀ name, PySem.W.lookIn name od = some (mA name) :=
  let ⟨od, ho, hl⟩ := lookIn_ns I.ns
  ⟨od, ⟨I.obj, rfl, rfl, ho⟩, hl⟩

section
variable {prog : Program} {w : World} {A : Around} {E : Value → Shared → Prop} {s : Shared} {K : PySem.W.Frag} {x dx C f : Addr} {mA : Str → Option Value} {name : Str} {v : Value}

end

theorem RelO.some_of {v : V} {o : Option Value} (r : RelO (some v) o) : ∃ u, o = some u ∧ RelV v u := by
  cases o with
  | none => exact (show False from r).elim
  | some u => exact ⟨u, rfl, r⟩
section
variable {P : Program} {w : World} {H H' : Hp} {h h' : Heap} {a C dx : Addr} {fs fs' : List (Str × V)}
theorem ins_get (hok : HOk P w H h) (e : H a = some (.ins C dx fs)) : ∃ mA, ObjM h a dx C mA ∧ (∀ f, RelO (fs.lookup f) (mA f)) ∧ PySem.Within mA (fs.map (·.1)) ∧ fs.length ≤ 1000 ∧ H dx = some (.own a) := by
  obtain ⟨d, z, ne, ob, mA, n, r, q⟩ := (show ObjOk P w H h a (.ins C dx fs) from hok a _ e)
  exact ⟨mA, ⟨ob, n, ne⟩, r, q, z, d⟩
end

structure Cls (K : PySem.W.Frag) (C : Addr) : Prop where
  pg : PySem.W.plainGet K C Str.empty = true
  hd : PySem.W.hasDictIn K C = true
  po : PySem.W.plainOver K C = true
  sa : PySem.W.findIn K (.ref C) "__setattr__" = some (some (.builtin "object.__setattr__"))
theorem Cls.get {K : PySem.W.Frag} {C : Addr} (c : Cls K C) (f : Str) : PySem.W.plainGet K C f = true := c.pg
/-- a constant of the class -/
structure Con (K : PySem.W.Frag) (C : Addr) (f : Str) (v : V) (u : Value) : Prop where
  at_ : PySem.W.findIn K (.ref C) f = some (some u)
  rel : RelV v u
  get : PySem.W.specialIn K u "__get__" = some none
  cp : PySem.W.copiedNames.contains f = false
/-- a method: a plain def of the class or of one above it -/
structure Meth (K : PySem.W.Frag) (C : Addr) (m : Str) (f : Addr) : Prop where
  at_ : PySem.W.findIn K (.ref C) m = some (some (.ref f))
  fn : PySem.W.isFn K (.ref f) = true
  kp : PySem.W.keepIn K (.ref f) = true

section
variable {X : Cx} {pins : List (Addr × Obj)} {σ : St} {H : Hp} {s : Shared} {a C dx : Addr} {fs : List (Str × V)} {f : Str} {v : V} {A : Around} {E : Value → Shared → Prop}

end

section
variable {X : Cx} {o e value : Expr} {f : Str} {pos pos' tpos : Pos} {ta tv : TE}
end

section
variable {X : Cx} {pins : List (Addr × Obj)} {σ : St} {H : Hp} {s : Shared} {A : Around} {E : Value → Shared → Prop} {Q : Value → Shared → Prop} {c : Value} {b : Bool}
/-- the type of a value, as the fragment's deciders take it; for an instance its class -/
inductive TyOf (K : PySem.W.Frag) (H : Hp) : V → Value → Prop where
  | non : TyOf K H .non (.type "NoneType")
  | bl (x : Bool) : TyOf K H (.bl x) (.type "bool")
  | int (i : Int) : TyOf K H (.int i) (.type "int")
  | str (x : Str) : TyOf K H (.str x) (.type "str")
  | flt (x : UInt64) : TyOf K H (.flt x) (.type "float")
  | lst {a : Addr} {xs : List V} (e : H a = some (.lst xs)) : TyOf K H (.ref a) (.type "list")
  | frz {a : Addr} {o : Obj} {xs : List V} (e : H a = some (.frz o (.lst xs))) : TyOf K H (.ref a) (.type "list")
  | tup {a : Addr} {xs : List V} (e : H a = some (.tup xs)) : TyOf K H (.ref a) (.type "tuple")
  | dK {a : Addr} {kvs : List (Key × V)} (e : H a = some (.dK kvs)) : TyOf K H (.ref a) (.type "dict")
  | dT {a : Addr} {kvs : List (List Key × V)} (e : H a = some (.dT kvs)) : TyOf K H (.ref a) (.type "dict")
  | ins {a C dx : Addr} {fs : List (Str × V)} (e : H a = some (.ins C dx fs)) (cl : Cls K C) (ha : PySem.W.findIn K (.ref C) "__class__" = some (some (.builtin "object.__class__")))
      (hn : PySem.W.specialIn K (.builtin "object.__class__") "__get__" = some (some (.builtin "getset_descriptor.__get__"))) (htk : PySem.W.takesIn K (.builtin "object.__class__") = some true)
      (hm : PySem.W.mroIn K C (.type "object") = some true) : TyOf K H (.ref a) (.ref C)
/-- isinstance(x, c) for one class c, a built-in or an own one: kitOne's answer -/
theorem isinst_ok {x : V} {u t : Value} (I : Inv X pins σ H s) (rx : RelV x u) (ty : TyOf X.K H x t) (e : PySem.W.kitOne X.K t c = some b) (h : ∀ tk, Q (.bool b) { s with toks := tk }) :
    wpAny (model X.prog X.w) A (call (.builtin "isinstance") [u, c]) Q E s := by
  cases ty with
  | non => cases (show u = Value.none from rx); exact PySem.W.kia_one PySem.W.kitx_none I.kIn True.intro e (fun z => nomatch z) h
  | bl y => cases (show u = Value.bool y from rx); exact PySem.W.kia_one PySem.W.kitx_bool I.kIn True.intro e (fun z => nomatch z) h
  | int i => obtain ⟨t, q⟩ := (show ∃ t, u = Value.int i t from rx); cases q; exact PySem.W.kia_one PySem.W.kitx_int I.kIn True.intro e (fun z => nomatch z) h
  | str y => obtain ⟨t, q⟩ := (show ∃ t, u = Value.str y t from rx); cases q; exact PySem.W.kia_one PySem.W.kitx_str I.kIn True.intro e (fun z => nomatch z) h
  | flt y => obtain ⟨t, q⟩ := (show ∃ t, u = Value.float y t from rx); cases q; exact PySem.W.kia_one PySem.W.kitx_float I.kIn True.intro e (fun z => nomatch z) h
  | @lst a xs ea =>
    cases (show u = Value.ref a from rx)
    obtain ⟨_, _, n, _, h1⟩ := (show ObjOk X.prog X.w H s.heap a (.lst xs) from I.hok a _ ea)
    exact PySem.W.kia_one PySem.W.kitx_list I.kIn ⟨_, h1, rfl⟩ e (fun z => nomatch z) h
  | @frz a ob xs ea =>
    cases (show u = Value.ref a from rx)
    obtain ⟨_, _, _, n, _, h1⟩ := (show ObjOk X.prog X.w H s.heap a (.frz ob (.lst xs)) from I.hok a _ ea)
    exact PySem.W.kia_one PySem.W.kitx_list I.kIn ⟨_, h1, rfl⟩ e (fun z => nomatch z) h
  | @tup a xs ea =>
    cases (show u = Value.ref a from rx)
    obtain ⟨_, _, _, p⟩ := (show ObjOk X.prog X.w H s.heap a (.tup xs) from I.hok a _ ea)
    obtain ⟨o, h1, h2, _⟩ := p
    exact PySem.W.kia_one PySem.W.kitx_tuple I.kIn ⟨o, h1, h2⟩ e (fun z => nomatch z) h
  | @dK a kvs ea =>
    cases (show u = Value.ref a from rx)
    obtain ⟨_, _, vs, _, p⟩ := (show ObjOk X.prog X.w H s.heap a (.dK kvs) from I.hok a _ ea)
    obtain ⟨o, es, ep, h1, h2, _⟩ := p
    exact PySem.W.kia_one PySem.W.kitx_dict I.kIn ⟨o, h1, h2.1⟩ e (fun z => nomatch z) h
  | @dT a kvs ea =>
    cases (show u = Value.ref a from rx)
    obtain ⟨_, _, xs, _, o, es, ep, h1, h2, _⟩ := (show ObjOk X.prog X.w H s.heap a (.dT kvs) from I.hok a _ ea)
    exact PySem.W.kia_one PySem.W.kitx_dict I.kIn ⟨o, h1, h2.1⟩ e (fun z => nomatch z) h
  | @ins a C dx fs ea cl ha hn htk hm =>
    cases (show u = Value.ref a from rx)
    obtain ⟨mA, O, _⟩ := ins_get I.hok ea
    obtain ⟨od, J, _⟩ := O.look
    exact PySem.W.kia_one (PySem.W.kitx_own (cl.get _) cl.hd ha hn htk hm) I.kIn J e (fun z => nomatch z) h
end
end L2

namespace L2
open PySem PySem.Spec PyProof.Rows

structure Room (k : Nat) (A : Around) : Prop where
  hd : A.handled = none
  dp : A.depth + 3 * k + 5 < recursionLimit
  un : A.units + 16 * k + 200 < cLine
  gd : A.guards = some []
theorem Room.mono {j k : Nat} {A : Around} (r : Room k A) (h : j ≤ k) : Room j A := ⟨r.hd, by have := r.dp; omega, by have := r.un; omega, r.gd⟩
theorem Room.deeper {k : Nat} {A : Around} (r : Room (k + 1) A) (env : Env) : Room k (A.deeper env) :=
  ⟨r.hd, by have := r.dp; show A.depth + 1 + 3 * k + 5 < _; omega, by have := r.un; show A.units + 3 + 16 * k + 200 < _; omega, r.gd⟩
theorem Room.in1 {k : Nat} {A : Around} (r : Room (k + 1) A) : Room k A.in1 :=
  ⟨r.hd, by have := r.dp; show A.depth + 3 * k + 5 < _; omega, by have := r.un; show A.units + 1 + 16 * k + 200 < _; omega, r.gd⟩
theorem Room.depth {k : Nat} {A : Around} (r : Room k A) : A.depth < recursionLimit := by have := r.dp; omega
theorem Room.units {k : Nat} {A : Around} (r : Room k A) : A.units + 64 < cLine := by have := r.un; omega
def tNil : TA := fun _ H Q => Q [] H
def tCons (ta : TE) (tr : TA) : TA := fun σ H Q => ta σ H fun x H1 => tr σ H1 fun xs H2 => Q (x :: xs) H2
section
variable {X : Cx} {e : Expr} {es : List Expr} {te : TE} {t : TA} {pos : Pos}
theorem pa_nil : PA X [] tNil := fun _ _ _ _ H Q I h => Calls.spliced_nil ⟨[], H, I, .nil, h⟩
theorem pa_cons (ha : PE X e te) (hr : PA X es t) (hs : starEach (e :: es) X.env = (false, eval e X.env) :: starEach es X.env := by rfl) : PA X (e :: es) (tCons te t) := by
  intro pos pins s σ H Q I h
  rw [hs]
  show wpAny _ _ (spliced ((false, eval e X.env) :: backTo pos (starEach es X.env))) _ _ s
  refine Calls.spliced_cons (thn (ha pins s σ H _ I h) fun u s1 ⟨x, H1, I1, r1, q1⟩ => ?_)
  exact thn (hr pos pins s1 σ H1 _ I1 q1) fun us s2 ⟨xs, H2, I2, r2, q2⟩ => ⟨x :: xs, H2, I2, .cons r1 r2, q2⟩

/-- a tuple, a list of written items -/
def tTup (t : TA) : TE := fun σ H Q => t σ H fun xs H1 => xs.length ≤ sizeLine ∧ ∀ p, H1 p = none → Q (.ref p) (upd H1 p (.tup xs))
def tLst (t : TA) : TE := fun σ H Q => t σ H fun xs H1 => xs.length ≤ sizeLine ∧ ∀ p, H1 p = none → Q (.ref p) (upd H1 p (.lst xs))
theorem pe_tup {x1} (h : PA X es t) : PE X (.Tuple es x1 pos) (tTup t) := by
  intro pins s σ H Q I hq
  refine wpAny_Tuple_spliced (thn (h pos pins s σ H _ I hq) fun us s1 ⟨xs, H1, I1, r, z, q⟩ => ⟨by rw [← r.length]; exact z, ?_⟩)
  have hf : H1 s1.heap.objs.size = none := I1.hok.fresh (Nat.le_refl _)
  refine ⟨.ref s1.heap.objs.size, upd H1 s1.heap.objs.size (.tup xs), I1.laid (t' := s1.toks) (fun b u e => Heap.get?_push_of_some _ e) (Nat.le_refl _) ?_, rfl, q _ hf⟩
  exact ⟨z, us, r, ⟨_, Heap.get?_push_size _ rfl, rfl, _, rfl⟩⟩
theorem pe_lst (h : PA X es t) : PE X (.List es pos) (tLst t) := by
  intro pins s σ H Q I hq
  refine wpAny_List_spliced (thn (h pos pins s σ H _ I hq) fun us s1 ⟨xs, H1, I1, r, z, q⟩ => ⟨by rw [← r.length]; exact z, ?_⟩)
  have hf : H1 s1.heap.objs.size = none := I1.hok.fresh (Nat.le_refl _)
  refine ⟨.ref s1.heap.objs.size, upd H1 s1.heap.objs.size (.lst xs), I1.laid (t' := s1.toks) (fun b u e => Heap.get?_push_of_some _ e) (Nat.le_refl _) ?_, rfl, q _ hf⟩
  exact ⟨z, us, 0, r, Heap.get?_push_size _ rfl⟩
end

/-- a def's promise: the bound arguments in the parameters' order, the heap, the wanted end, the wanted exception -/
abbrev Sp := List V → Hp → VK → XK → Prop
/-- how an exception lies behind a call (file 08 gives it): the callers' frames, abstract heap and state ahead of the call, the wish, the exception, the state -/
abbrev CXT := List Env → Hp → Shared → XK → Value → Shared → Prop

/-- the state at a call -/
structure Env0 (P : Program) (w : World) (K : PySem.W.Frag) (mg : Str → Option Value) (base : Heap) (A : Around) (outer : List Env) (s : Shared) (H : Hp) : Prop where
  frames : A.frames = some outer
  mod : Mod K mg base
  bs : ∀ b o, base.get? b = some o → s.heap.get? b = some o ∧ H b = none
  bsz : base.objs.size ≤ s.heap.objs.size
  funs : s.heap.FunFrames base outer
  frf : ∀ b ∈ frs outer, H b = none
  hok : HOk P w H s.heap
  bare : AllBare s.gens
/-- a call's end -/
def CE (outer : List Env) (P : Program) (w : World) (H : Hp) (s : Shared) (Q : VK) (u : Value) (s' : Shared) : Prop :=
  ∃ v H', s'.os = s.os ∧ AllBare s'.gens ∧ Un (frs outer) [] H H' s.heap s'.heap ∧ HOk P w H' s'.heap ∧ RelV v u ∧ Q v H'
def CR (CX : CXT) (outer : List Env) (P : Program) (w : World) (H : Hp) (s : Shared) (Q : VK) (E : XK) (r : Result) (s' : Shared) : Prop :=
  match r with
  | .ok (.ret u) => CE outer P w H s Q u s'
  | .ok _ => False
  | .error e => CX outer H s E e s'
structure FnOk (P : Program) (w : World) (K : PySem.W.Frag) (mg : Str → Option Value) (base : Heap) (CX : CXT) (k : Nat) (f : Addr) (fd : FuncData) (ps : List Str) (sp : Sp) : Prop where
  len : ∀ vs H Q E, sp vs H Q E → vs.length = ps.length
  run : ∀ (A : Around) (outer : List Env) (s : Shared) (H : Hp) (args : Args) (us : List Value) (vs : List V) (Q : VK) (E : XK), Room k A → Env0 P w K mg base A outer s H → BindsTo s fd args (ps.zip us) → Vals vs us → sp vs H Q E →
    codeAny (model P w) A (.call (.ref f) args) (CR CX outer P w H s Q E) s
theorem FnOk.mono {P : Program} {w : World} {K : PySem.W.Frag} {mg : Str → Option Value} {base : Heap} {CX : CXT} {j k : Nat} {f : Addr} {fd : FuncData} {ps : List Str} {sp : Sp} (F : FnOk P w K mg base CX j f fd ps sp) (h : j ≤ k) :
    FnOk P w K mg base CX k f fd ps sp := ⟨F.len, fun A outer s H args us vs Q E hr => F.run A outer s H args us vs Q E (hr.mono h)⟩
/-- a weaker promise -/
theorem FnOk.imp {P : Program} {w : World} {K : PySem.W.Frag} {mg : Str → Option Value} {base : Heap} {CX : CXT} {k : Nat} {f : Addr} {fd : FuncData} {ps : List Str} {sp sp' : Sp} (F : FnOk P w K mg base CX k f fd ps sp)
    (h : ∀ vs H Q E, sp' vs H Q E → sp vs H Q E) : FnOk P w K mg base CX k f fd ps sp' :=
  ⟨fun vs H Q E q => F.len vs H Q E (h _ _ _ _ q), fun A outer s H args us vs Q E hr he hb hv hs => F.run A outer s H args us vs Q E hr he hb hv (h _ _ _ _ hs)⟩

theorem Env0.in1 {P : Program} {w : World} {K : PySem.W.Frag} {mg : Str → Option Value} {base : Heap} {A : Around} {outer : List Env} {s : Shared} {H : Hp} (e : Env0 P w K mg base A outer s H) :
    Env0 P w K mg base A.in1 outer s H := ⟨e.frames, e.mod, e.bs, e.bsz, e.funs, e.frf, e.hok, e.bare⟩

section
variable {X : Cx} {pins : List (Addr × Obj)} {σ : St} {H : Hp} {s s' : Shared}
/-- from a body: what a callee wants -/
theorem Inv.env0 (I : Inv X pins σ H s) : Env0 X.prog X.w X.K X.mg X.base X.A X.stack s H :=
  ⟨I.ok.frames, I.ok.mod, I.bs, Nat.le_trans I.ok.bsz I.sz, I.stack, I.stkFree, I.hok, I.bare⟩
/-- behind a call -/
theorem Inv.after {Q : VK} {u : Value} (I : Inv X pins σ H s) (h : CE X.stack X.prog X.w H s Q u s') : EP X pins σ Q u s' := by
  obtain ⟨v, H', os, bare, un, hok, r, q⟩ := h
  obtain ⟨hh, g, d, t, os'⟩ := s'
  obtain rfl : os' = s.os := os
  exact ⟨v, H', I.call (h' := hh) (g' := g) (d' := d) (t' := t) (ch := []) un hok bare (fun b z => absurd z (by simp)), r, q⟩
end

/-- f(..): the written arguments, then the defaults dvs; E: what is wanted of an exception -/
def tCall (sp : Sp) (dvs : List V) (E : XK) (t : TA) : TE := fun σ H Q => t σ H fun vs H1 => sp (vs ++ dvs) H1 Q E
/-- how the parameters are bound: us the positional arguments, kw the keywords' values by name, ds the defaults that fill up -/
def Binds (K : PySem.W.Frag) (fd : FuncData) (ps : List Str) (ds : List Value) : Prop :=
  ∀ (s : Shared) (us : List Value), K.In s.heap → (us ++ ds).length = ps.length → BindsTo s fd ⟨us, []⟩ (ps.zip (us ++ ds))
/-- every parameter is given -/
theorem Binds.all {K : PySem.W.Frag} {fd : FuncData} {ps : List Str} (h : ∀ us : List Value, us.length = ps.length → bindArgs fd ⟨us, []⟩ = pure (ps.zip us)) : Binds K fd ps [] := fun s us _ hl => by
  rw [List.append_nil] at hl ⊢
  exact .of_eq (h us hl)

/-- an exception of a callee reaches what this body wants of exceptions -/
def Passes (CX : CXT) (X : Cx) (E : XK) : Prop := ∀ (pins : List (Addr × Obj)) (σ : St) (H : Hp) (s : Shared) (e : Value) (s' : Shared), Inv X pins σ H s → CX X.stack H s E e s' → X.xe e s'

section
variable {X : Cx} {CX : CXT} {k : Nat} {f C : Addr} {fd : FuncData} {ps : List Str} {sp : Sp} {dvs : List V} {ds : List Value} {E : XK} {x m : Str} {p pos apos : Pos} {e o : Expr} {es : List Expr} {ta : TE} {t : TA}

/-- the callee runs -/
theorem run_fn {pins : List (Addr × Obj)} {σ : St} {H : Hp} {s : Shared} {Q : VK} {us : List Value} {vs : List V} (F : FnOk X.prog X.w X.K X.mg X.base CX k f fd ps sp) (hr : Room k X.A) (hb : Binds X.K fd ps ds) (hd : Vals dvs ds) (hx : Passes CX X E)
    (I : Inv X pins σ H s) (r : Vals vs us) (h : sp (vs ++ dvs) H Q E) : wpAny (model X.prog X.w) X.A (call (.ref f) us) (EP X pins σ Q) X.xe s := by
  have r2 : Vals (vs ++ dvs) (us ++ ds) := r.append hd
  have hl : (us ++ ds).length = ps.length := by rw [← r2.length]; exact F.len _ _ _ _ h
  refine wpAny_call (codeAny_mono (F.run X.A X.stack s H ⟨us, []⟩ (us ++ ds) (vs ++ dvs) Q E hr I.env0 (hb s us I.kIn hl) r2 h) fun r s' hq => ?_)
  cases r with
  | error e => exact hx pins σ H s e s' I hq
  | ok fl =>
    cases fl with
    | ret u => exact I.after hq
    | next => exact False.elim hq
    | brk => exact False.elim hq
    | cont => exact False.elim hq

theorem pe_call (F : FnOk X.prog X.w X.K X.mg X.base CX k f fd ps sp) (hr : Room k X.A) (hg : Gl X x) (hm : X.mg x = some (.ref f)) (hk : PySem.W.keepIn X.K (.ref f) = true) (hb : Binds X.K fd ps ds) (hd : Vals dvs ds) (hx : Passes CX X E)
    (ha : PA X (e :: es) t) (hdb : (x == ("__debug__" : Str)) = false := by decide) (he : starEach (e :: es) X.env = (false, eval e X.env) :: starEach es X.env := by rfl) (hpl : (backTo pos (starEach es X.env)).any (·.1) = false := by rfl) :
    PE X (.Call (.Name x p) (e :: es) [] pos) (tCall sp dvs E t) := by
  intro pins s σ H Q I h
  refine wpAny_Call_Name_kw (ld_glob I hg hm ?_ hdb)
  refine PySem.W.callWith_K (h₀ := X.base) I.ok.mod.kin hk (thn (ha pos pins s σ H _ I h) fun us s1 ⟨vs, H1, I1, r, q⟩ => ⟨I1.kIn, ?_⟩) he hpl
  exact run_fn F hr hb hd hx I1 r q
/-- what a class must have to be made -/
structure Mk (K : PySem.W.Frag) (C f : Addr) : Prop where
  makes : PySem.W.makesIn K C = true
  init : PySem.W.findIn K (.ref C) "__init__" = some (some (.ref f))
  fn : PySem.W.isFn K (.ref f) = true
  kp : PySem.W.keepIn K (.ref C) = true

end

/-- the values of the keywords, from the left -/
def PK (X : Cx) (kws : List Keyword) (t : TA) : Prop :=
  ∀ (pos : Pos) (pins : List (Addr × Obj)) (s : Shared) (σ : St) (H : Hp) (Q : List V → Hp → Prop), Inv X pins σ H s → t σ H Q → wpAny (model X.prog X.w) X.A (evalAll ((backToKw pos (keywordEach kws X.env)).map (·.2))) (AP X pins σ Q) X.xe s
section
variable {X : Cx} {CX : CXT} {k : Nat} {f C : Addr} {fd : FuncData} {ps ks : List Str} {sp : Sp} {E : XK} {x m : Str} {p pos apos kpos : Pos} {e o : Expr} {es : List Expr} {kws : List Keyword} {te ta : TE} {t tk : TA} {nm : Option Str}
theorem pk_nil : PK X [] tNil := fun _ _ _ _ H Q I h => wpAny_evalAll_nil ⟨[], H, I, .nil, h⟩
theorem pk_cons (ha : PE X e te) (hr : PK X kws t) : PK X (⟨nm, e, kpos⟩ :: kws) (tCons te t) := by
  intro pos pins s σ H Q I h
  show wpAny _ _ (evalAll ((do let v ← eval e X.env; standAt pos; pure v) :: (backToKw pos (keywordEach kws X.env)).map (·.2))) _ _ s
  refine wpAny_evalAll_cons (wpAny_bind (thn (ha pins s σ H _ I h) fun u s1 ⟨x, H1, I1, r1, q1⟩ => wpAny_bind (wpAny_standAt (wpAny_pure ?_))))
  exact thn (hr pos pins s1 σ H1 _ I1 q1) fun us s2 ⟨xs, H2, I2, r2, q2⟩ => ⟨x :: xs, H2, I2, .cons r1 r2, q2⟩

/-- how a call with keywords binds: g puts the positional values us and the keywords' values ws (names ks) in the parameters' order, defaults among them -/
structure KBinds (K : PySem.W.Frag) (fd : FuncData) (ps ks : List Str) (g : List Value → List Value → List Value) (gV : List V → List V → List V) : Prop where
  to : ∀ (s : Shared) (us ws : List Value), K.In s.heap → (g us ws).length = ps.length → BindsTo s fd ⟨us, ks.zip ws⟩ (ps.zip (g us ws))
  rel : ∀ {vs : List V} {us : List Value} {zs : List V} {ws : List Value}, Vals vs us → Vals zs ws → Vals (gV vs zs) (g us ws)
def tCallK (sp : Sp) (gV : List V → List V → List V) (E : XK) (t tk : TA) : TE := fun σ H Q => t σ H fun vs H1 => tk σ H1 fun zs H2 => sp (gV vs zs) H2 Q E
variable {g : List Value → List Value → List Value} {gV : List V → List V → List V}
theorem run_fnk {pins : List (Addr × Obj)} {σ : St} {H : Hp} {s : Shared} {Q : VK} {us ws : List Value} {vs zs : List V} (F : FnOk X.prog X.w X.K X.mg X.base CX k f fd ps sp) (hr : Room k X.A) (hb : KBinds X.K fd ps ks g gV) (hx : Passes CX X E)
    (I : Inv X pins σ H s) (r : Vals vs us) (rz : Vals zs ws) (h : sp (gV vs zs) H Q E) : wpAny (model X.prog X.w) X.A (call (.ref f) us (ks.zip ws)) (EP X pins σ Q) X.xe s := by
  have r2 := hb.rel r rz
  have hl : (g us ws).length = ps.length := by rw [← r2.length]; exact F.len _ _ _ _ h
  refine wpAny_call (codeAny_mono (F.run X.A X.stack s H ⟨us, ks.zip ws⟩ (g us ws) (gV vs zs) Q E hr I.env0 (hb.to s us ws I.kIn hl) r2 h) fun r s' hq => ?_)
  cases r with
  | error e => exact hx pins σ H s e s' I hq
  | ok fl =>
    cases fl with
    | ret u => exact I.after hq
    | next => exact False.elim hq
    | brk => exact False.elim hq
    | cont => exact False.elim hq
end

/-- names: the parameters first -/
structure FnScope (N P : List Str) (sc : Scope) : Prop where
  kind : sc.kind = .function
  co : sc.isCoroutine = false
  gen : sc.isGenerator = false
  nd : N.Nodup
  pre : N.take P.length = P
  par : ∀ x ∈ P, sc.names.lookup x = some .local ∨ sc.names.lookup x = some .cell
  nofree : ∀ y ∈ sc.names, y.2 ≠ .free

theorem bindL_out {kindOf : Str → Option NameKind} {x : Str} : ∀ {binds : List (Str × Value)} {m : Str → Option Value}, (∀ v, (x, v) ∉ binds) → bindL kindOf binds m x = m x
  | [], _, _ => rfl
  | (n, v) :: r, m, h => by
    unfold bindL
    rw [bindL_out fun w hw => h w (List.mem_cons_of_mem _ hw)]
    split
    · have : x ≠ n := by rintro rfl; exact h v List.mem_cons_self
      simp [this]
    · rfl
theorem bindC_out {kindOf : Str → Option NameKind} {x : Str} : ∀ {binds : List (Str × Value)} {m : Str → Option Value}, (∀ v, (x, v) ∉ binds) → bindC kindOf binds m x = m x
  | [], _, _ => rfl
  | (n, v) :: r, m, h => by
    unfold bindC
    rw [bindC_out fun w hw => h w (List.mem_cons_of_mem _ hw)]
    split
    · rfl
    · have : x ≠ n := by rintro rfl; exact h v List.mem_cons_self
      simp [this]
theorem bindL_get {kindOf : Str → Option NameKind} {x : Str} {v : Value} : ∀ {P : List Str} {vs : List Value} {i : Nat} {m : Str → Option Value}, P.Nodup → P[i]? = some x → vs[i]? = some v → kindOf x = some .local →
    bindL kindOf (P.zip vs) m x = some v
  | [], _, _, _, _, h, _, _ => by simp at h
  | _ :: _, [], _, _, _, _, h, _ => by simp at h
  | p :: P, w :: vs, 0, m, nd, h1, h2, hk => by
    simp at h1 h2; subst h1; subst h2
    show bindL kindOf ((p, w) :: P.zip vs) m p = _
    unfold bindL
    rw [bindL_out fun v hv => (List.nodup_cons.mp nd).1 (List.of_mem_zip hv).1, if_pos hk]
    simp
  | p :: P, w :: vs, i + 1, m, nd, h1, h2, hk => by
    show bindL kindOf ((p, w) :: P.zip vs) m x = _
    unfold bindL
    exact bindL_get (i := i) (List.nodup_cons.mp nd).2 (by simpa using h1) (by simpa using h2) hk
theorem bindC_get {kindOf : Str → Option NameKind} {x : Str} {v : Value} : ∀ {P : List Str} {vs : List Value} {i : Nat} {m : Str → Option Value}, P.Nodup → P[i]? = some x → vs[i]? = some v → kindOf x ≠ some .local →
    bindC kindOf (P.zip vs) m x = some v
  | [], _, _, _, _, h, _, _ => by simp at h
  | _ :: _, [], _, _, _, _, h, _ => by simp at h
  | p :: P, w :: vs, 0, m, nd, h1, h2, hk => by
    simp at h1 h2; subst h1; subst h2
    show bindC kindOf ((p, w) :: P.zip vs) m p = _
    unfold bindC
    rw [bindC_out fun v hv => (List.nodup_cons.mp nd).1 (List.of_mem_zip hv).1, if_neg hk]
    simp
  | p :: P, w :: vs, i + 1, m, nd, h1, h2, hk => by
    show bindC kindOf ((p, w) :: P.zip vs) m x = _
    unfold bindC
    exact bindC_get (i := i) (List.nodup_cons.mp nd).2 (by simpa using h1) (by simpa using h2) hk

/-- the names' values at the entry -/
def start (N : List Str) (vs : List V) : St := vs.map some ++ List.replicate (N.length - vs.length) none

/-- the context of a def's body, at its entry; an exception leaves the frame, then lies as CX says -/
def cxOf (CX : CXT) (P : Program) (w : World) (K : PySem.W.Frag) (mg : Str → Option Value) (base : Heap) (N : List Str) (qual : Str) (scope : Scope) (f : Addr) (cd : Value) (A : Around) (outer : List Env) (s : Shared) (H : Hp) (E : XK) : Cx where
  prog := P
  w := w
  K := K
  mg := mg
  base := base
  A := A.deeper (envOfC qual scope s.heap.objs.size f cd)
  N := N
  s_0 := s
  H_0 := H
  env := envOfC qual scope s.heap.objs.size f cd
  outer := outer
  stack := envOfC qual scope s.heap.objs.size f cd :: outer
  ex := []
  calm := true
  fn := fun _ => true
  pn := []
  xe := fun e s' => wpAny (model P w) (A.deeper (envOfC qual scope s.heap.objs.size f cd)) (leaving (envOfC qual scope s.heap.objs.size f cd) e) (fun _ s'' => CX outer H s E e s'') (fun e' s'' => CX outer H s E e' s'') s'

theorem cell_has {sc : Scope} {n : Nat} {x : Str} (h : sc.names.lookup x = some .cell) : ∃ c, (cellsFrom n sc.names []).lookup x = some c := by
  have q := PySem.W.cellsFrom_some sc.names n [] (.inl h)
  exact Option.isSome_iff_exists.mp q

theorem inv_start {CX : CXT} {P : Program} {w : World} {K : PySem.W.Frag} {mg : Str → Option Value} {base : Heap} {N ps : List Str} {qual : Str} {scope : Scope} {f : Addr} {cd : Value} {A : Around} {outer : List Env} {s s1 : Shared} {H : Hp} {E : XK} {us : List Value} {vs : List V}
    (S : FnScope N ps scope) (hd : A.handled = none) (e0 : Env0 P w K mg base A outer s H) (hl : vs.length = ps.length) (r : Vals vs us)
    (x : InCallC s s.heap.objs.size (bindL (envOfC qual scope s.heap.objs.size f cd).kindOf (ps.zip us) fun _ => none) (cellsFrom (s.heap.objs.size + 1) scope.names []) (bindC (envOfC qual scope s.heap.objs.size f cd).kindOf (ps.zip us) fun _ => none) s1) :
    Inv (cxOf CX P w K mg base N qual scope f cd A outer s H E) [] (start N vs) H s1 := by
  have hpl : ps.length ≤ N.length := by have := congrArg List.length S.pre; rw [List.length_take] at this; omega
  obtain ⟨h1, tk, rfl, hk⟩ := x.done
  have noA : ∀ b : Addr, b ∉ (cxOf CX P w K mg base N qual scope f cd A outer s H E).ex := fun b z => absurd (show b ∈ ([] : List Addr) from z) (by simp)
  refine ⟨⟨e0.mod, S.kind, rfl, rfl, Nat.le_refl _, fun y z c h1 h2 => ?_, fun y hy => ?_, fun y c _ h => ?_, fun _ => hd, Around.frames_deeper e0.frames, .inr ⟨rfl, rfl⟩, fun b z => absurd z (noA b), e0.bs, e0.bsz, fun b _ _ => noA b, fun b z => absurd z (noA b), e0.funs, e0.frf⟩,
    rfl, e0.bare, Un.kept hk, ⟨_, x.toInCall.ns, fun i y v h1 h2 h3 => ?_⟩, fun y c h => ⟨_, x.cell y c h⟩, e0.hok.fresh (Nat.le_refl _), fun y c h => ?_, fun p hp => absurd (show p ∈ ([] : List (Addr × Obj)) from hp) (by simp), e0.hok.kept hk, ?_⟩
  · exact name_of_addr x.apart (PySem.mem_of_lookup h1) (PySem.mem_of_lookup h2)
  · have hy : scope.names.lookup y = some .cell ∨ scope.names.lookup y = some .free := hy
    rcases hy with hy | hy
    · exact cell_has hy
    · exact absurd rfl (S.nofree _ (PySem.mem_of_lookup hy))
  · exact Nat.le_of_lt (x.above y c (PySem.mem_of_lookup h))
  · have hi : i < vs.length := by
      unfold start at h2
      by_cases hi : i < vs.length
      · exact hi
      · rw [List.getElem?_append_right (by simpa using hi)] at h2
        rw [List.getElem?_replicate] at h2
        split at h2 <;> cases h2
    have ha : vs[i]? = some v := by
      unfold start at h2
      rw [List.getElem?_append_left (by simpa using hi), List.getElem?_map] at h2
      cases e : vs[i]? with
      | none => rw [e] at h2; cases h2
      | some a => rw [e] at h2; cases h2; rfl
    obtain ⟨u, hu, rv⟩ := r.get ha
    have hp : ps[i]? = some y := by
      rw [← S.pre, List.getElem?_take_of_lt (by omega)]; exact h1
    have ndP : ps.Nodup := by rw [← S.pre]; exact S.nd.sublist (List.take_sublist _ _)
    refine ⟨u, rv, ?_⟩
    rcases S.par y (List.mem_of_getElem? hp) with k | k
    · exact .inl ⟨k, bindL_get ndP hp hu k⟩
    · obtain ⟨c, e⟩ := cell_has (n := s.heap.objs.size + 1) k
      refine .inr ⟨.inl k, c, e, ?_⟩
      have q := x.cell y c e
      rw [bindC_get ndP hp hu (by show scope.names.lookup y ≠ _; rw [k]; decide)] at q
      exact q
  · exact e0.hok.fresh (Nat.le_of_lt (x.above y c (PySem.mem_of_lookup h)))
  · unfold start
    show _ = N.length
    rw [List.length_append, List.length_map, List.length_replicate]
    omega

/-- THE RULE: a def (or a method) of the text, by its body. The body's reading t is chosen for each entry; it is run at the parameters' values -/
theorem fn_of {CX : CXT} {P : Program} {w : World} {K : PySem.W.Frag} {mg : Str → Option Value} {base : Heap} {k : Nat} {f : Addr} {name qual : Str} {params : Arguments} {body : List Stmt} {scope : Scope} {dV kV doc pm cdv ct oc : Value} {an od : Option Addr}
    {osl : Array (Option Value)} {N ps : List Str} {sp : Sp} (lk : K.lookup f = some ⟨oc, od, .func (PySem.W.fnOf name qual params body scope dV kV doc pm an cdv ct), osl⟩) (hcd : PySem.W.codeIn K cdv qual = true) (S : FnScope N ps scope)
    (len : ∀ vs H Q E, sp vs H Q E → vs.length = ps.length)
    (hbody : ∀ (A : Around) (outer : List Env) (s : Shared) (H : Hp) (vs : List V) (Q : VK) (E : XK), Room k (A.deeper (envOfC qual scope s.heap.objs.size f cdv)) → sp vs H Q E →
      ∃ t, PSs (cxOf CX P w K mg base N qual scope f cdv A outer s H E) body t ∧ t { nx := fun _ H' => Q .non H', rt := Q } (start N vs) H) :
    FnOk P w K mg base CX (k + 1) f (PySem.W.fnOf name qual params body scope dV kV doc pm an cdv ct) ps sp := by
  refine ⟨len, fun A outer s H args us vs Q E hr e0 hb r hsp => ?_⟩
  have hl := len _ _ _ _ hsp
  have KX : K.In s.heap := e0.mod.kin.keeps fun b o e => (e0.bs b o e).1
  have lim : s.heap.NoLimit := e0.mod.nolimit.keeps fun b o e => (e0.bs b o e).1
  have hkind : ∀ y ∈ ps.zip us, scope.names.lookup y.1 = some .local ∨ (scope.names.lookup y.1 = some .cell ∧ ((cellsFrom (s.heap.objs.size + 1) scope.names []).lookup y.1).isSome = true) := fun ⟨n, v⟩ hy => by
    rcases S.par n (List.of_mem_zip hy).1 with q | q
    · exact .inl q
    · exact .inr ⟨q, PySem.W.cellsFrom_some _ _ _ (.inl q)⟩
  refine codeAny_call_function hr.depth (KX _ _ lk) rfl S.co S.gen rfl (PySem.W.codeRec_of KX hcd) (hb _ _ _ _ ?_)
  refine wpAny_newFunctionEnv_cells S.kind hkind fun env he s1 x => ?_
  subst he
  refine ⟨lim.keeps x.toInCall.keep, codeAny_func ?_⟩
  obtain ⟨t, ht, hq⟩ := hbody A outer s H vs Q E (hr.deeper _) hsp
  have I : Inv (cxOf CX P w K mg base N qual scope f cdv A outer s H E) [] (start N vs) H s1 := inv_start S hr.hd e0 hl r x
  refine wpAny_mono (ht [] s1 (start N vs) H _ I hq) (fun fl s' hs => ?_) fun e s' hs => hs
  have fin : ∀ {σ' : St} {H' : Hp} {v : V} {u : Value}, Inv (cxOf CX P w K mg base N qual scope f cdv A outer s H E) [] σ' H' s' → RelV v u → Q v H' → CE outer P w H s Q u s' :=
    fun {σ' H' v u} J rv q => ⟨v, H', J.os, J.bare, J.base, J.hok, rv, q⟩
  cases fl with
  | ret u =>
    obtain ⟨v, σ', H', J, rv, q⟩ := hs
    exact fin J rv q
  | next =>
    obtain ⟨σ', H', J, q⟩ := hs
    exact fin (v := V.non) (u := Value.none) J rfl q
  | brk =>
    obtain ⟨_, _, _, q⟩ := hs
    exact False.elim q
  | cont =>
    obtain ⟨_, _, _, q⟩ := hs
    exact False.elim q
end L2

namespace L2
open PySem PySem.Spec PyProof.Rows
section
variable {X : Cx} {x : Str} {p pos : Pos} {e : Expr} {es : List Expr} {t : TA} {id T : String} {r : List V → Hp → VK → Prop}

def tCB (r : List V → Hp → VK → Prop) (t : TA) : TE := fun σ H Q => t σ H fun vs H1 => r vs H1 Q
/-- f(e, ..), f a built-in function -/
theorem pe_callB (hc : CallR X (.builtin id) r) (hg : Gl X x) (hm : X.mg x = none) (hv : bootBuiltins x = some (.builtin id)) (ha : PA X (e :: es) t) (hn : x ≠ "__name__" := by decide) (hdb : (x == ("__debug__" : Str)) = false := by decide)
    (he : starEach (e :: es) X.env = (false, eval e X.env) :: starEach es X.env := by rfl) (hpl : (backTo pos (starEach es X.env)).any (·.1) = false := by rfl) : PE X (.Call (.Name x p) (e :: es) [] pos) (tCB r t) := by
  intro pins s σ H Q I h
  refine wpAny_Call_Name_kw (ld_blt I hg hm hv ?_ hn hdb)
  exact PyProof.Rows.callWith_builtin1 (thn (ha pos pins s σ H _ I h) fun us s1 ⟨vs, H1, I1, r1, q1⟩ => hc pins s1 σ H1 vs us Q I1 r1 q1) he hpl
/-- T(e, ..), T a built-in type -/
theorem pe_callTy (hc : CallR X (.type T) r) (hg : Gl X x) (hm : X.mg x = none) (hv : bootBuiltins x = some (.type T)) (ha : PA X (e :: es) t) (hn : x ≠ "__name__" := by decide) (hdb : (x == ("__debug__" : Str)) = false := by decide)
    (he : starEach (e :: es) X.env = (false, eval e X.env) :: starEach es X.env := by rfl) (hpl : (backTo pos (starEach es X.env)).any (·.1) = false := by rfl) : PE X (.Call (.Name x p) (e :: es) [] pos) (tCB r t) := by
  intro pins s σ H Q I h
  refine wpAny_Call_Name_kw (ld_blt I hg hm hv ?_ hn hdb)
  exact PyProof.Rows.callWith_type1 (thn (ha pos pins s σ H _ I h) fun us s1 ⟨vs, H1, I1, r1, q1⟩ => hc pins s1 σ H1 vs us Q I1 r1 q1) he hpl
end
end L2

namespace HT
open PySem PyProof.Rows

section
open PySem.SeqAt
open PySem.AutoSeq1 (wpAny_loadPart')
open PySem.MeetsSeq PySem.MeetsSeq2 PySem.MeetsSeq3

end

section
variable {prog : Program} {w : World} {A : Around} {E : Value → Shared → Prop} {s : Shared}

/-- a slice's bound as a place among n (d where it is left out) -/
def sIx (n d : Nat) : Option Int → Nat
  | none => d
  | some v => if v < 0 then (v + (n : Int)).toNat else min v.toNat n
theorem sIx_none (n d : Nat) : sIx n d none = d := rfl
theorem sIx_nat (n d k : Nat) : sIx n d (some (k : Int)) = min k n := by
  show (if (k : Int) < 0 then ((k : Int) + (n : Int)).toNat else min (k : Int).toNat n) = min k n
  rw [if_neg (by omega), Int.toNat_natCast]
end
end HT

namespace L2
open PySem PySem.Spec PyProof.Rows

abbrev TO := St → Hp → (Option Int → Hp → Prop) → Prop
/-- a slice's part (left out, or an int) -/
def PO (X : Cx) (e : Option Expr) (t : TO) : Prop :=
  ∀ (pins : List (Addr × Obj)) (s : Shared) (σ : St) (H : Hp) (Q : Option Int → Hp → Prop), Inv X pins σ H s → t σ H Q →
    wpAny (model X.prog X.w) X.A (evalPart e X.env) (fun u s' => ∃ o H', Inv X pins σ H' s' ∧ IsPart u o ∧ Q o H') X.xe s
def tNoPart : TO := fun _ H Q => Q none H
def tPart (t : TE) : TO := fun σ H Q => t σ H fun x H1 => ∃ i, x = .int i ∧ Q (some i) H1

section
variable {X : Cx} {e : Expr} {te : TE} {lo hi : Option Expr} {tl th : TO} {pos p2 : Pos}

theorem po_none : PO X none tNoPart := by
  intro pins s σ H Q I h
  rw [evalPart_none]
  exact wpAny_pure ⟨none, H, I, .none, h⟩
theorem po_some (h : PE X e te) : PO X (some e) (tPart te) := by
  intro pins s σ H Q I hw
  rw [evalPart_some]
  refine thn (h pins s σ H _ I hw) fun u s1 ⟨x, H1, I1, r1, q1⟩ => ?_
  obtain ⟨i, rfl, q⟩ := q1
  obtain ⟨t, rfl⟩ := r1
  exact ⟨some i, H1, I1, .int i t, q⟩

/-- what a slice of a value is, by values: the slice object stands at sl -/
def SlR (X : Cx) (r : V → Option Int → Option Int → Hp → VK → Prop) : Prop :=
  ∀ (pins : List (Addr × Obj)) (s : Shared) (σ : St) (H : Hp) (x : V) (v vl vu : Value) (lo hi : Option Int) (sl : Addr) (Q : VK), Inv X pins σ H s → RelV x v → s.heap.IsSliceOf sl vl vu .none → IsPart vl lo → IsPart vu hi → r x lo hi H Q →
    ∃ T id, typeLookup (.type T) "__getitem__" = pure (some (.builtin id)) ∧ s.TypeIs v T ∧ wpAny (model X.prog X.w) X.A (getItem v (.ref sl)) (EP X pins σ Q) X.xe s
def tSl (r : V → Option Int → Option Int → Hp → VK → Prop) (te : TE) (tl th : TO) : TE := fun σ H Q => te σ H fun x H1 => tl σ H1 fun l H2 => th σ H2 fun u H3 => r x l u H3 Q
/-- a[lo:hi], any a -/
theorem pe_slice {r : V → Option Int → Option Int → Hp → VK → Prop} (hr : SlR X r) (he : PE X e te) (hl : PO X lo tl) (hu : PO X hi th) : PE X (.Subscript e (.Slice lo hi none p2) pos) (tSl r te tl th) := by
  intro pins s σ H Q I h
  refine Subscript_ (thn (he pins s σ H _ I h) fun v s1 ⟨x, H1, I1, r1, q1⟩ => ?_)
  refine wpAny_Slice (thn (hl pins s1 σ H1 _ I1 q1) fun vl s2 ⟨l, H2, I2, pl, q2⟩ => thn (hu pins s2 σ H2 _ I2 q2) fun vu s3 ⟨u, H3, I3, pu, q3⟩ => ?_)
  rw [evalPart_none]
  refine wpAny_pure ?_
  have I4 : Inv X pins σ H3 { s3 with heap := s3.heap.push { cls := .type "slice", data := .fields #[vl, vu, .none] } } := I3.kept (t' := s3.toks) fun b ob q => Heap.get?_push_of_some _ q
  obtain ⟨T, id, hT, ht, hg⟩ := hr pins { s3 with heap := s3.heap.push { cls := .type "slice", data := .fields #[vl, vu, .none] } } σ H3 x v vl vu l u s3.heap.objs.size Q I4 r1 (Heap.IsSliceOf.new ..) pl pu q3
  show wpAny (model X.prog X.w) X.A (subscriptTail e (.Slice lo hi none p2) v (.ref s3.heap.objs.size)) (EP X pins σ Q) X.xe { s3 with heap := s3.heap.push { cls := .type "slice", data := .fields #[vl, vu, .none] } }
  exact tail_any (ops := [.ref s3.heap.objs.size, v]) ht hT hg (by with_unfolding_all rfl)

/-- the items of xs[lo:hi] -/
def cutV (xs : List V) (lo hi : Option Int) : List V := (xs.drop (HT.sIx xs.length 0 lo)).take (HT.sIx xs.length xs.length hi - HT.sIx xs.length 0 lo)
theorem cutV_length (xs : List V) (lo hi : Option Int) : (cutV xs lo hi).length ≤ xs.length := by
  unfold cutV
  rw [List.length_take, List.length_drop]
  omega
end
end L2

namespace L2
open PySem PySem.Spec PyProof.Rows

/-- the place that an index of any sign means -/
def ixN (n : Nat) (i : Int) : Option Nat := if 0 ≤ i then (if i < n then some i.toNat else none) else if -(n : Int) ≤ i then some (i + n).toNat else none
def atI {α : Type} (xs : List α) (i : Int) : Option α := (ixN xs.length i).bind fun j => xs[j]?
theorem ixN_seq {n : Nat} {i : Int} {j : Nat} (h : ixN n i = some j) : seqIndex? i n = some j ∧ j < n ∧ -(n : Int) ≤ i ∧ i < n := by
  unfold ixN at h
  by_cases h0 : 0 ≤ i
  · rw [if_pos h0] at h
    by_cases h1 : i < n
    · rw [if_pos h1] at h
      have e : i.toNat = j := Option.some.inj h
      exact ⟨by rw [seqIndex_of h0 h1, e], by omega, by omega, h1⟩
    · rw [if_neg h1] at h; cases h
  · rw [if_neg h0] at h
    by_cases h1 : -(n : Int) ≤ i
    · rw [if_pos h1] at h
      have e : (i + n).toNat = j := Option.some.inj h
      exact ⟨by rw [seqIndex_neg (by omega) h1, e], by omega, h1, by omega⟩
    · rw [if_neg h1] at h; cases h
theorem atI_get {α : Type} {xs : List α} {i : Int} {v : α} (h : atI xs i = some v) : ∃ j, seqIndex? i xs.length = some j ∧ xs[j]? = some v ∧ j < xs.length ∧ -(xs.length : Int) ≤ i ∧ i < xs.length := by
  unfold atI at h
  cases e : ixN xs.length i with
  | none => rw [e] at h; cases h
  | some j =>
    rw [e] at h
    obtain ⟨h1, h2, h3, h4⟩ := ixN_seq e
    exact ⟨j, h1, h, h2, h3, h4⟩
theorem atI_nat {α : Type} {xs : List α} {j : Nat} {v : α} (h : xs[j]? = some v) : atI xs (j : Int) = some v := by
  have hj : j < xs.length := (List.getElem?_eq_some_iff.mp h).1
  have e : ixN xs.length (j : Int) = some j := by
    unfold ixN
    rw [if_pos (by omega), if_pos (by omega)]; simp
  unfold atI; rw [e]; exact h
/-- what stands as an index of a plain subscript -/
def PlainIx (b : Expr) : Prop := ∀ o i, subscripted b false o i = operate [o, i] (getItem o i)
/-- a subscript by values -/
def IxR (X : Cx) (r : R2) : Prop :=
  ∀ (value slice : Expr) (pins : List (Addr × Obj)) (s : Shared) (σ : St) (H : Hp) (x y : V) (v u : Value) (Q : VK), Inv X pins σ H s → RelV x v → RelV y u → r x y H Q →
    subscripted slice false v u = operate [v, u] (getItem v u) → wpAny (model X.prog X.w) X.A (subscriptTail value slice v u) (EP X pins σ Q) X.xe s
/-- a call of a builtin's method by values: the receiver, the arguments -/
def MtR (X : Cx) (id : String) (r : V → List V → Hp → VK → Prop) : Prop :=
  ∀ (pins : List (Addr × Obj)) (s : Shared) (σ : St) (H : Hp) (x : V) (xs : List V) (v : Value) (us : List Value) (Q : VK), Inv X pins σ H s → RelV x v → Vals xs us → r x xs H Q →
    wpAny (model X.prog X.w) X.A (call (.builtin id) (v :: us)) (EP X pins σ Q) X.xe s
section
variable {X : Cx} {a b : Expr} {ta tb : TE} {pos : Pos}
/-- a[b] -/
theorem pe_ix {r : R2} (hr : IxR X r) (ha : PE X a ta) (hb : PE X b tb) (hs : PlainIx b) : PE X (.Subscript a b pos) (tOp r ta tb) := by
  intro pins s σ H Q I h
  exact Subscript_ (binT ha hb I h fun v u s2 x y H2 I2 rx ry q => hr a b pins s2 σ H2 x y v u Q I2 rx ry q (hs _ _))

def rIxL (K : PySem.W.Frag) : R2 := fun x y H Q => ∃ p xs i v, x = .ref p ∧ y = .int i ∧ SqL K H p xs ∧ atI xs i = some v ∧ Q v H
def rIxT (K : PySem.W.Frag) : R2 := fun x y H Q => ∃ p xs i v, x = .ref p ∧ y = .int i ∧ SqT K H p xs ∧ atI xs i = some v ∧ Q v H
def rIxS : R2 := fun x y H Q => ∃ z i c, x = .str z ∧ y = .int i ∧ z.length ≤ sizeLine ∧ atI z.cps.toList i = some c ∧ Q (.str ⟨#[c]⟩) H
theorem ix_list : IxR X (rIxL X.K) := by
  intro value slice pins s σ H x y v u Q I rx ry h hs
  obtain ⟨p, xs, i, z, rfl, rfl, hq, he, q⟩ := h
  cases rx
  obtain ⟨t, rfl⟩ := ry
  obtain ⟨its, r, pl, hz⟩ := I.list hq
  obtain ⟨j, h1, h2, h3, h4, h5⟩ := atI_get he
  obtain ⟨w, ew, rw'⟩ := r.get h2
  have hl := r.length
  have hn := line63
  have fin : EP X pins σ Q w s := ⟨z, H, I, rw', q⟩
  by_cases h0 : 0 ≤ i
  · have hj : i.toNat = j := by
      rw [seqIndex_of h0 h5] at h1
      exact Option.some.inj h1
    exact item_listR pl.isList h0 (by omega) (by rw [hj]; simpa using ew) fin hs
  · have hj : (i + (its.toArray.size : Int)).toNat = j := by
      rw [seqIndex_neg (by omega) h4] at h1
      rw [List.size_toArray, ← hl]
      exact Option.some.inj h1
    exact subscriptTail_builtinR (x := w) pl.isList.typeIs slot_list_getitem.lookup
      (wpAny_getItem_list_neg (Q := fun r s' => r = w ∧ EP X pins σ Q r s') pl.isList (by omega) (by rw [List.size_toArray] <;> omega) (by omega) (by rw [hj]; simpa using ew) ⟨rfl, fin⟩) hs
theorem ix_tup : IxR X (rIxT X.K) := by
  intro value slice pins s σ H x y v u Q I rx ry h hs
  obtain ⟨p, xs, i, z, rfl, rfl, hq, he, q⟩ := h
  cases rx
  obtain ⟨t, rfl⟩ := ry
  obtain ⟨its, r, pl, hz⟩ := I.tuple hq
  obtain ⟨j, h1, h2, h3, h4, h5⟩ := atI_get he
  obtain ⟨w, ew, rw'⟩ := r.get h2
  have hl := r.length
  have hn := line63
  have fin : EP X pins σ Q w s := ⟨z, H, I, rw', q⟩
  exact subscriptTail_builtinR (x := w) pl.typeIs slot_tuple_getitem.lookup
    (getItem_tuple (j := j) (Q := fun r s' => r = w ∧ EP X pins σ Q r s') pl (by omega) (by omega) (by rw [List.size_toArray, ← hl]; exact h1) (by simpa using ew) ⟨rfl, fin⟩) hs
theorem ix_str : IxR X rIxS := by
  intro value slice pins s σ H x y v u Q I rx ry h hs
  obtain ⟨z, i, c, rfl, rfl, hz, he, q⟩ := h
  obtain ⟨t, rfl⟩ := rx
  obtain ⟨t', rfl⟩ := ry
  obtain ⟨j, h1, h2, h3, h4, h5⟩ := atI_get he
  have hl : z.cps.toList.length = z.length := by simp [Str.length]
  rw [hl] at h1 h4 h5
  have hn := line63
  exact tail_any (typeIs_str s z t) slot_str_getitem.lookup (getItem_str (c := c) (by
    have e1 : decide (i < -(2 ^ 63 : Int)) = false := decide_eq_false (by omega)
    have e2 : decide (i ≥ 2 ^ 63) = false := decide_eq_false (by omega)
    rw [e1, e2, Bool.or_false]) (by rw [h1]; simpa using h2) ⟨.str ⟨#[c]⟩, H, I.tok _, ⟨_, rfl⟩, q⟩) hs
/-- the list's object behind a store -/
theorem mapSeq_set (its : List Value) (n j : Nat) (u : Value) : Obj.mapSeq (·.setIfInBounds j u) { cls := .type "list", data := .seq its.toArray n } = { cls := .type "list", data := .seq (its.set j u).toArray n } := by
  simp [Obj.mapSeq]
theorem Inv.lst {pins : List (Addr × Obj)} {σ : St} {H : Hp} {s : Shared} {p : Addr} {xs : List V} (I : Inv X pins σ H s) (h : H p = some (.lst xs)) :
    ∃ (its : List Value) (n : Nat), Vals xs its ∧ s.heap.get? p = some { cls := .type "list", data := .seq its.toArray n } ∧ xs.length ≤ sizeLine := by
  obtain ⟨z, its, n, r, e⟩ := I.hok p _ h
  exact ⟨its, n, r, e, z⟩
/-- the list at p is written by an update of its object -/
theorem Inv.lstUpd {pins : List (Addr × Obj)} {σ : St} {H : Hp} {s : Shared} {p : Addr} {xs ys : List V} {its its' : List Value} {n n' : Nat} {f : Obj → Obj} (I : Inv X pins σ H s) (h : H p = some (.lst xs))
    (ho : s.heap.get? p = some { cls := .type "list", data := .seq its.toArray n }) (hf : f { cls := .type "list", data := .seq its.toArray n } = { cls := .type "list", data := .seq its'.toArray n' }) (r : Vals ys its') (hz : ys.length ≤ sizeLine) (t : Nat) :
    Inv X pins σ (upd H p (.lst ys)) { s with heap := s.heap.update p f, toks := t } := by
  have e : (s.heap.update p f).get? p = some { cls := .type "list", data := .seq its'.toArray n' } := by
    rw [Heap.get?_update_self f ho (by rw [hf] <;> rfl), hf]
  refine I.write (x := p) (e := p) (by rw [h]; trivial) (.inl rfl) (fun b u hb q => (Heap.get?_update_other _ _ (Ne.symm hb)).trans q) ⟨_, e⟩ ?_
  exact ⟨hz, its', n', r, e⟩
def rSetL : V → V → V → Hp → (Hp → Prop) → Prop := fun o i v H Q => ∃ p xs k j, o = .ref p ∧ i = .int k ∧ H p = some (.lst xs) ∧ ixN xs.length k = some j ∧ Q (upd H p (.lst (xs.set j v)))
theorem set_list : PSet X rSetL := by
  intro pins s σ H o i v ov iv u Q I ro ri rv h
  obtain ⟨p, xs, k, j, rfl, rfl, hp, hj, q⟩ := h
  cases ro
  obtain ⟨t, rfl⟩ := ri
  obtain ⟨its, n, r, ho, hz⟩ := I.lst hp
  obtain ⟨h1, h2, h3, h4⟩ := ixN_seq hj
  have hl := r.length
  have hn := line63
  have I' : Inv X pins σ (upd H p (.lst (xs.set j v))) { s with heap := s.heap.update p (Obj.mapSeq (·.setIfInBounds j u)) } :=
    I.lstUpd hp ho (mapSeq_set its n j u) (r.set rv j) (by rw [List.length_set]; exact hz) s.toks
  by_cases h0 : 0 ≤ k
  · have hk : k.toNat = j := by
      rw [seqIndex_of h0 h4] at h1
      exact Option.some.inj h1
    exact PySem.W.ki_setAt ho h0 (by omega) (by rw [List.size_toArray, ← hl]; exact h4) (by rw [hk]; exact ⟨_, I', q⟩)
  · have hk : (k + (its.toArray.size : Int)).toNat = j := by
      rw [seqIndex_neg (by omega) h3] at h1
      rw [List.size_toArray, ← hl]
      exact Option.some.inj h1
    exact PySem.W.ki_setBack ho (by omega) (by rw [List.size_toArray, ← hl]; exact h3) (by omega) (by rw [hk]; exact ⟨_, I', q⟩)

theorem slice_bounds (lo hi : Option Int) (n : Nat) : (sliceBounds lo hi none n).1 = ((HT.sIx n 0 lo : Nat) : Int) ∧ (sliceBounds lo hi none n).2.1 = ((HT.sIx n n hi : Nat) : Int) ∧ (sliceBounds lo hi none n).2.2 = 1 := by
  refine ⟨?_, ?_, rfl⟩
  · cases lo with
    | none => simp [sliceBounds, HT.sIx]
    | some i =>
      simp only [sliceBounds, HT.sIx, Option.getD_none, show (1 : Int) > 0 by decide, if_true]
      by_cases h : i < 0
      · simp only [h, if_true] <;> omega
      · simp only [h, if_false] <;> omega
  · cases hi with
    | none => simp [sliceBounds, HT.sIx]
    | some i =>
      simp only [sliceBounds, HT.sIx, Option.getD_none, show (1 : Int) > 0 by decide, if_true]
      by_cases h : i < 0
      · simp only [h, if_true] <;> omega
      · simp only [h, if_false] <;> omega
theorem slicePick_cut (its : List Value) (lo hi : Option Int) : slicePick its.toArray lo hi none = ((its.drop (HT.sIx its.length 0 lo)).take (HT.sIx its.length its.length hi - HT.sIx its.length 0 lo)).toArray := by
  obtain ⟨h1, h2, h3⟩ := slice_bounds lo hi its.toArray.size
  unfold slicePick
  rw [h1, h2, h3]
  simp only [sliceRange_one, pick_run, List.size_toArray] <;> rfl
/-- xs[lo:hi] of a list: a new list -/
def rSlL (K : PySem.W.Frag) : V → Option Int → Option Int → Hp → VK → Prop := fun x lo hi H Q => ∃ a xs, x = .ref a ∧ SqL K H a xs ∧ ∀ p, H p = none → Q (.ref p) (upd H p (.lst (cutV xs lo hi)))
theorem sl_list : SlR X (rSlL X.K) := by
  intro pins s σ H x v vl vu lo hi sl Q I rx hs pl pu h
  obtain ⟨a, xs, rfl, hx, q⟩ := h
  cases rx
  obtain ⟨its, r, ht, hz⟩ := I.list hx
  have hlen := r.length
  refine ⟨"list", _, slot_list_getitem.lookup, ht.isList.typeIs, ?_⟩
  refine wpAny_getItem_list_slice ht.isList hs pl pu .none (by simp) ?_ (by rw [List.size_toArray] <;> omega)
  rw [slicePick_cut, ← hlen]
  refine ⟨.ref s.heap.objs.size, _, I.laid (t' := s.toks) (o := .lst (cutV xs lo hi)) (fun b ob q => Heap.get?_push_of_some _ q) (Nat.le_refl _) ?_, rfl, q _ (I.hok.fresh (Nat.le_refl _))⟩
  exact ⟨Nat.le_trans (cutV_length xs lo hi) hz, _, 0, (r.drop (HT.sIx xs.length 0 lo)).take (HT.sIx xs.length xs.length hi - HT.sIx xs.length 0 lo), Heap.get?_push_size _ rfl⟩

def flatV : V → Bool
  | .non => true
  | .bl _ => true
  | .int _ => true
  | .str _ => true
  | _ => false
/-- == of flat values -/
def eqV : V → V → Bool
  | .non, .non => true
  | .bl a, .bl b => a == b
  | .bl a, .int b => (if a then 1 else 0) == b
  | .int a, .bl b => a == (if b then 1 else 0)
  | .int a, .int b => a == b
  | .str a, .str b => a == b
  | _, _ => false
theorem eqAt_V {A : Around} {s : Shared} {y x : V} {u v : Value} (ry : RelV y u) (rx : RelV x v) (fy : flatV y = true) (fx : flatV x = true) : SeqAt.EqAt A s u v (eqV y x) := by
  cases y with
  | non =>
    cases ry
    cases x with
    | non => cases rx; exact SeqAt.EqAt.same _
    | bl b => cases rx; exact SeqAt.EqAt.none_bool b
    | int b => obtain ⟨t, rfl⟩ := rx; exact SeqAt.EqAt.none_int b t
    | str b => obtain ⟨t, rfl⟩ := rx; exact SeqAt.EqAt.none_str b t
    | _ => exact absurd (show false = true from fx) Bool.false_ne_true
  | bl a =>
    cases ry
    cases x with
    | non => cases rx; exact SeqAt.EqAt.bool_none a
    | bl b => cases rx; exact SeqAt.EqAt.bool_bool a b
    | int b => obtain ⟨t, rfl⟩ := rx; exact SeqAt.EqAt.bool_int a b t
    | str b => obtain ⟨t, rfl⟩ := rx; exact SeqAt.EqAt.bool_str a b t
    | _ => exact absurd (show false = true from fx) Bool.false_ne_true
  | int a =>
    obtain ⟨t', rfl⟩ := ry
    cases x with
    | non => cases rx; exact SeqAt.EqAt.int_none a t'
    | bl b => cases rx; exact SeqAt.EqAt.int_bool a t' b
    | int b => obtain ⟨t, rfl⟩ := rx; exact SeqAt.EqAt.int_int a t' b t
    | str b => obtain ⟨t, rfl⟩ := rx; exact SeqAt.EqAt.int_str a t' b t
    | _ => exact absurd (show false = true from fx) Bool.false_ne_true
  | str a =>
    obtain ⟨t', rfl⟩ := ry
    cases x with
    | non => cases rx; exact SeqAt.EqAt.str_none a t'
    | bl b => cases rx; exact SeqAt.EqAt.str_bool a t' b
    | int b => obtain ⟨t, rfl⟩ := rx; exact SeqAt.EqAt.str_int a t' b t
    | str b => obtain ⟨t, rfl⟩ := rx; exact SeqAt.EqAt.str_str a t' b t
    | _ => exact absurd (show false = true from fx) Bool.false_ne_true
  | _ => exact absurd (show false = true from fy) Bool.false_ne_true
/-- the items' answers, read off the values (a value's own answer does not lean on its token) -/
def eqU (x : V) (u : Value) : Bool := match u with
  | .none => eqV .non x
  | .bool b => eqV (.bl b) x
  | .int i _ => eqV (.int i) x
  | .str z _ => eqV (.str z) x
  | _ => false
theorem eqU_of {x y : V} {u : Value} (r : RelV y u) (f : flatV y = true) : eqU x u = eqV y x := by
  cases y with
  | non => cases r; rfl
  | bl b => cases r; rfl
  | int i => obtain ⟨t, rfl⟩ := r; rfl
  | str z => obtain ⟨t, rfl⟩ := r; rfl
  | _ => exact absurd (show false = true from f) Bool.false_ne_true
theorem mem_eqAt {A : Around} {s : Shared} {x : V} {v : Value} (rx : RelV x v) (fx : flatV x = true) : ∀ {xs : List V} {us : List Value}, Vals xs us → xs.all flatV = true → ∀ u ∈ us, SeqAt.EqAt A s u v (eqU x u)
  | _, _, .nil, _ => fun u hu => by cases hu
  | y :: xs, u :: us, .cons r t, f => fun u' hu => by
    rw [List.all_cons, Bool.and_eq_true] at f
    rcases List.mem_cons.mp hu with rfl | hu
    · rw [eqU_of r f.1]; exact eqAt_V r rx f.1 fx
    · exact mem_eqAt rx fx t f.2 u' hu
theorem call_list_of : CallR X (.type "list") (fun xs H Q => ∃ p ys, xs = [.ref p] ∧ (SqL X.K H p ys ∨ SqT X.K H p ys) ∧ ∀ l, H l = none → Q (.ref l) (upd H l (.lst ys))) := by
  intro pins s σ H xs us Q I r h
  obtain ⟨p, ys, rfl, hq, q⟩ := h
  obtain ⟨u, rfl, rx⟩ := vals1 r
  cases rx
  have fin : ∀ (its : List Value), Vals ys its → ys.length ≤ sizeLine → ∀ (h' : Heap) (c' : Nat), (∀ b o', s.heap.get? b = some o' → h'.get? b = some o') →
      h'.get? s.heap.objs.size = some { cls := .type "list", dict := none, data := .seq its.toArray c', slots := #[] } → EP X pins σ Q (.ref s.heap.objs.size) { s with heap := h' } := fun its r' hz h' c' kp e =>
    ⟨.ref s.heap.objs.size, _, I.laid (t' := s.toks) kp (Nat.le_refl _) (show ObjOk X.prog X.w _ h' _ (.lst ys) from ⟨hz, its, c', r', e⟩), rfl, q _ (I.hok.fresh (Nat.le_refl _))⟩
  rcases hq with hq | hq
  · obtain ⟨its, r', pl, hz⟩ := I.list hq
    have hlen := r'.length
    obtain ⟨o, ho, hc, n, hd⟩ := pl.isList
    exact call_list_seq p (.inl rfl) ho hc hd (fun h' c' kp e => fin its r' hz h' c' kp e) (by simp only [List.size_toArray] <;> omega)
  · obtain ⟨its, r', pl, hz⟩ := I.tuple hq
    have hlen := r'.length
    obtain ⟨o, ho, hc, n, hd⟩ := pl
    exact call_list_seq p (.inr rfl) ho hc hd (fun h' c' kp e => fin its r' hz h' c' kp e) (by simp only [List.size_toArray] <;> omega)
/-- the value is of that builtin type -/
def tyV (K : PySem.W.Frag) (T : String) (x : V) (H : Hp) : Prop := match x with
  | .str _ => T = "str"
  | .int _ => T = "int"
  | .ref p => (T = "list" ∧ ∃ xs, SqL K H p xs) ∨ (T = "tuple" ∧ ∃ o, K.lookup p = some o ∧ o.cls = .type "tuple" ∧ o.dict = none) ∨
      (T = "dict" ∧ ((∃ kvs, H p = some (.dK kvs)) ∨ ∃ kvs, H p = some (.dT kvs))) ∨ (T = "set" ∧ ∃ S n, H p = some (.set S n))
  | _ => False
theorem tyV_is {pins : List (Addr × Obj)} {σ : St} {H : Hp} {s : Shared} {T : String} {x : V} {v : Value} (I : Inv X pins σ H s) (r : RelV x v) (ty : tyV X.K T x H) :
    s.TypeIs v T ∧ ∀ a, v = .ref a → ∃ ob, s.heap.get? a = some ob ∧ ob.dict = none := by
  cases x with
  | str z =>
    obtain ⟨t, rfl⟩ := r
    cases (show T = "str" from ty)
    exact ⟨typeIs_str s z t, fun _ e => nomatch e⟩
  | int i =>
    obtain ⟨t, rfl⟩ := r
    cases (show T = "int" from ty)
    exact ⟨typeIs_int s i t, fun _ e => nomatch e⟩
  | ref p =>
    cases r
    rcases ty with ⟨rfl, xs, hq⟩ | ⟨rfl, o, hk, hc, hd⟩ | ⟨rfl, hk⟩ | ⟨rfl, S, n, hk⟩
    · obtain ⟨its, _, pl, _⟩ := I.list hq
      refine ⟨pl.isList.typeIs, fun a e => ?_⟩
      cases e
      obtain ⟨o, n, e, c, hd, _⟩ := pl
      exact ⟨o, e, hd⟩
    · refine ⟨⟨o, I.kIn p o hk, hc⟩, fun a e => ?_⟩
      cases e
      exact ⟨o, I.kIn _ o hk, hd⟩
    · have z : ∃ o, s.heap.get? p = some o ∧ o.ExactDict := by
        rcases hk with ⟨kvs, hk⟩ | ⟨kvs, hk⟩
        · obtain ⟨_, _, _, _, o, _, _, e, ex, _⟩ := I.hok p _ hk
          exact ⟨o, e, ex⟩
        · obtain ⟨_, _, _, _, o, _, _, e, ex, _⟩ := I.hok p _ hk
          exact ⟨o, e, ex⟩
      obtain ⟨o, e, ex⟩ := z
      refine ⟨⟨o, e, ex.1⟩, fun a e2 => ?_⟩
      cases e2
      exact ⟨o, e, ex.2.1⟩
    · obtain ⟨o, _, _, _, e, ex, _⟩ := I.hok p _ hk
      refine ⟨⟨o, e, ex.1⟩, fun a e2 => ?_⟩
      cases e2
      exact ⟨o, e, ex.2.1⟩
  | _ => exact False.elim ty
def tBM0 (K : PySem.W.Frag) (T : String) (r : V → List V → Hp → VK → Prop) (to : TE) : TE := fun σ H Q => to σ H fun x H1 => tyV K T x H1 ∧ r x [] H1 Q
def tBM (K : PySem.W.Frag) (T : String) (r : V → List V → Hp → VK → Prop) (to : TE) (t : TA) : TE := fun σ H Q => to σ H fun x H1 => tyV K T x H1 ∧ t σ H1 fun xs H2 => r x xs H2 Q
variable {o e : Expr} {es : List Expr} {to : TE} {t : TA} {name : Str} {apos cpos : Pos} {T id : String} {r : V → List V → Hp → VK → Prop}
theorem pe_bm (pa : PlainAttrs T) (slot : Slot T name id) (hty : typeOf (.builtin id) = pure (.type "method_descriptor")) (hm : MtR X id r) (ho : PE X o to) (ha : PA X (e :: es) t)
    (hbase : attributeBase o name X.env (eval o X.env) = eval o X.env := by rfl)
    (hfew : ((backTo cpos (starEach (e :: es) X.env)).all (fun x => !x.1) && (backToKw cpos (keywordEach [] X.env)).all (fun x => x.1.isSome)
      && decide ((e :: es).length + ([] : List Keyword).length + (if ([] : List Keyword).isEmpty then 0 else 1) < 30)) = true := by rfl)
    (hline : (apos.endLine == cpos.line) = true := by rfl) (hs : starEach (e :: es) X.env = (false, eval e X.env) :: starEach es X.env := by rfl) (hplain : (backTo cpos (starEach es X.env)).any (·.1) = false := by rfl) :
    PE X (.Call (.Attribute o name apos) (e :: es) [] cpos) (tBM X.K T r to t) := by
  intro pins s σ H Q I h
  refine wpAny_Call_method_late hbase hfew hline rfl (thn (ho pins s σ H _ I h) fun v s1 ⟨x, H1, I1, r1, ty, q1⟩ => ?_)
  obtain ⟨h1, h2⟩ := tyV_is I1 r1 ty
  refine ⟨T, id, pa, slot, hty, h1, h2, ?_⟩
  have hA := ha cpos pins s1 σ H1 _ I1 q1
  rw [hs] at hA ⊢
  refine Calls.callWith_builtin (by show (false || (backTo cpos (starEach es X.env)).any (·.1)) = false; rw [hplain] <;> rfl) (Calls.evalArgs_plain ?_)
  exact thn hA fun us s2 ⟨vs, H2, I2, r2, q2⟩ => hm pins s2 σ H2 x vs v us Q I2 r1 r2 q2
/- xs.append(e), list.index on a module's tuple .. are MtR facts of 06m -/
end
end L2

namespace L2
open PySem PySem.Spec PyProof.Rows

def MtM (X : Cx) (id : String) (r : V → List V → Hp → VK → Prop) : Prop :=
  ∀ (pins : List (Addr × Obj)) (s : Shared) (σ : St) (H : Hp) (x : V) (xs : List V) (v : Value) (us : List Value) (Q : VK), Inv X pins σ H s → RelV x v → Vals xs us → r x xs H Q →
    wpAny (model X.prog X.w) X.A (call (.builtin id) (v :: us)) (EP X pins σ Q) X.xe s

theorem Vals.one : ∀ {x : V} {us : List Value}, Vals [x] us → ∃ u, us = [u] ∧ RelV x u
  | _, _, .cons r .nil => ⟨_, rfl, r⟩
theorem Vals.zero : ∀ {us : List Value}, Vals [] us → us = []
  | _, .nil => rfl
theorem Vals.eraseIdx : ∀ {xs : List V} {us : List Value} (i : Nat), Vals xs us → Vals (xs.eraseIdx i) (us.eraseIdx i)
  | _, _, _, .nil => .nil
  | _, _, 0, .cons _ t => t
  | _, _, i + 1, .cons r t => .cons r (Vals.eraseIdx i t)
theorem Vals.reverse {xs : List V} {us : List Value} (h : Vals xs us) : Vals xs.reverse us.reverse := by
  induction h with
  | nil => exact .nil
  | cons r t ih => rw [List.reverse_cons, List.reverse_cons]; exact Vals.append ih (.cons r .nil)
theorem len_erase {α : Type} : ∀ (l : List α) (i : Nat), (l.eraseIdx i).length ≤ l.length
  | [], _ => Nat.le_refl _
  | _ :: _, 0 => Nat.le_succ _
  | _ :: r, i + 1 => Nat.succ_le_succ (len_erase r i)
section
variable {X : Cx} {pins : List (Addr × Obj)} {σ : St} {H : Hp} {s : Shared} {l b : Addr} {xs ys zs : List V}

theorem Inv.lset {its its' : List Value} {n : Nat} {f : Array Value → Array Value} {t' : Nat} (I : Inv X pins σ H s) (hH : H l = some (.lst xs))
    (e : s.heap.get? l = some { cls := .type "list", data := .seq its.toArray n }) (hf : f its.toArray = its'.toArray) (hv : Vals ys its') (hz : ys.length ≤ sizeLine) :
    Inv X pins σ (upd H l (.lst ys)) { s with heap := s.heap.update l (Obj.mapSeq f), toks := t' } := by
  have q := PySem.IsL.update e f
  rw [hf] at q
  refine I.write (x := l) (e := l) (by rw [hH]; exact trivial) (.inl rfl) (fun b' u hb hu => (Heap.get?_update_other s.heap (Obj.mapSeq f) (Ne.symm hb)).trans hu) ⟨_, q⟩ ?_
  exact ⟨hz, its', _, hv, q⟩
theorem Inv.fresh (I : Inv X pins σ H s) : H s.heap.objs.size = none := I.hok.fresh (Nat.le_refl _)
theorem Inv.lstM (I : Inv X pins σ H s) (hH : H l = some (.lst xs)) : xs.length ≤ sizeLine ∧ ∃ (its : List Value) (n : Nat), Vals xs its ∧ xs.length = its.length ∧ s.heap.get? l = some { cls := .type "list", data := .seq its.toArray n } := by
  obtain ⟨z, its, n, r, e⟩ := I.hok l _ hH
  exact ⟨z, its, n, r, r.length, e⟩

theorem notLongL {n : Nat} (h : n ≤ sizeLine) : Builtin.List.listTooLong n = false := by
  unfold Builtin.List.listTooLong
  exact decide_eq_false (by omega)
end

section
variable {X : Cx}

def rAppend : V → List V → Hp → VK → Prop := fun x vs H Q => ∃ l xs y, x = .ref l ∧ vs = [y] ∧ H l = some (.lst xs) ∧ xs.length < sizeLine ∧ Q .non (upd H l (.lst (xs ++ [y])))
theorem mt_append : MtM X "list.append" rAppend := by
  intro pins s σ H x vs v us Q I rx rv h
  obtain ⟨l, xs, y, rfl, rfl, hH, hz, q⟩ := h
  cases rx
  obtain ⟨u, rfl, ru⟩ := rv.one
  obtain ⟨z, its, n, r, hl, e⟩ := I.lstM hH
  refine call_meets F.slot_list_append ⟨_, e, rfl⟩ F.entry_list_append (F.args_list_append_2 _ _) (PySem.list_append l its.toArray n u (by rw [List.size_toArray]; omega)) ⟨e, ?_⟩
  refine ⟨.non, _, I.lset (its' := its ++ [u]) hH e (by simp) (r.append (.cons ru .nil)) ?_, rfl, q⟩
  rw [List.length_append, List.length_singleton]
  omega

def rExtend : V → List V → Hp → VK → Prop := fun x vs H Q => ∃ l b xs zs, x = .ref l ∧ vs = [.ref b] ∧ H l = some (.lst xs) ∧ H b = some (.lst zs) ∧ xs.length + zs.length ≤ sizeLine ∧ Q .non (upd H l (.lst (xs ++ zs)))
theorem mt_extend : MtM X "list.extend" rExtend := by
  intro pins s σ H x vs v us Q I rx rv h
  obtain ⟨l, b, xs, zs, rfl, rfl, hH, hB, hz, q⟩ := h
  cases rx
  obtain ⟨u, rfl, ru⟩ := rv.one
  cases ru
  obtain ⟨z, its, n, r, hl, e⟩ := I.lstM hH
  obtain ⟨z2, its2, n2, r2, hl2, e2⟩ := I.lstM hB
  have hsz : its.toArray.size + its2.toArray.size ≤ sizeLine := by rw [List.size_toArray, List.size_toArray]; omega
  have hlong : ¬ (!its.toArray.isEmpty && Builtin.List.listTooLong (its.toArray.size + its2.toArray.size)) = true := by
    rw [notLongL hsz, Bool.and_false]
    exact Bool.false_ne_true
  refine call_meets F.slot_list_extend ⟨_, e, rfl⟩ F.entry_list_extend (F.args_list_extend_2 _ _)
    (AutoSeq1.list_extend_list_list_0 l its.toArray n b its2.toArray n2 hlong (by rw [List.size_toArray]; omega) (by omega)) ⟨e, e2, ?_⟩
  refine ⟨.non, _, I.lset (its' := its ++ its2) hH e (by simp) (r.append r2) ?_, rfl, q⟩
  rw [List.length_append]
  omega

def rPopAt : V → List V → Hp → VK → Prop := fun x vs H Q => ∃ l xs i k y, x = .ref l ∧ vs = [.int i] ∧ H l = some (.lst xs) ∧ -(2 ^ 63) ≤ i ∧ i < 2 ^ 63 ∧ seqIndex? i xs.length = some k ∧ xs[k]? = some y ∧ Q y (upd H l (.lst (xs.eraseIdx k)))
theorem mt_popAt : MtM X "list.pop" rPopAt := by
  intro pins s σ H x vs v us Q I rx rv h
  obtain ⟨l, xs, i, k, y, rfl, rfl, hH, h1, h2, hk, hy, q⟩ := h
  cases rx
  obtain ⟨u, rfl, ru⟩ := rv.one
  obtain ⟨t, rfl⟩ := ru
  obtain ⟨z, its, n, r, hl, e⟩ := I.lstM hH
  obtain ⟨w, hw, rw'⟩ := r.get hy
  refine call_meets F.slot_list_pop ⟨_, e, rfl⟩ F.entry_list_pop (F.args_list_pop_2 _ _)
    (MeetsSeq.list_pop_at l its.toArray n i t k w (fitsIndex_both h1 h2) (by rw [List.size_toArray, ← hl]; exact hk) (by rw [← Array.getElem?_toList]; exact hw) (by rw [List.size_toArray]; omega)) ⟨e, ?_⟩
  refine ⟨y, _, I.lset (its' := its.eraseIdx k) hH e ?_ (r.eraseIdx k) ?_, rw', q⟩
  · show its.toArray.eraseIdxIfInBounds k = (its.eraseIdx k).toArray
    rw [List.eraseIdxIfInBounds_toArray]
  · have := len_erase xs k
    omega

end

section
variable {prog : Program} {w : World} {A : Around} {E : Value → Shared → Prop} {s : Shared}
end

section
variable {X : Cx}
end
end L2

namespace L2
open PySem PySem.Spec PyProof.Rows

theorem Vals.ints : ∀ {ns : List Int} {us : List Value}, Vals (ns.map V.int) us → IntsAre us ns
  | [], us, h => by
    rw [List.map_nil] at h
    cases h
    exact IntsAre.nil
  | n :: ns, us, h => by
    rw [List.map_cons] at h
    cases h with
    | cons r t =>
      obtain ⟨k, rfl⟩ := r
      exact IntsAre.cons n k (Vals.ints t)
theorem Vals.strs : ∀ {xs : List Str} {us : List Value}, Vals (xs.map V.str) us → StrsAre us xs
  | [], us, h => by
    rw [List.map_nil] at h
    cases h
    exact StrsAre.nil
  | x :: xs, us, h => by
    rw [List.map_cons] at h
    cases h with
    | cons r t =>
      obtain ⟨k, rfl⟩ := r
      exact StrsAre.cons x k (Vals.strs t)
theorem vals_of_strs : ∀ {us : List Value} {xs : List Str}, StrsAre us xs → Vals (xs.map V.str) us
  | _, _, .nil => by rw [List.map_nil]; exact Paired.nil
  | _, _, .cons x t h => by rw [List.map_cons]; exact Paired.cons (show RelV (V.str x) (Value.str x t) from ⟨t, rfl⟩) (vals_of_strs h)
theorem Vals.ref1 {a : Addr} {us : List Value} (r : Vals [V.ref a] us) : us = [Value.ref a] := by
  cases r with
  | cons r t =>
    cases t
    cases r
    rfl
section
variable {prog : Program} {w : World} {A : Around} {E : Value → Shared → Prop} {s : Shared} {l : Addr} {its : List Value} {ns : List Int} {Q : Value → Shared → Prop}
theorem min_raw (hh : A.handled = none) (hl : s.heap.IsList l its.toArray) (hi : IntsAre its ns) (hne : 0 < ns.length)
    (h : ∀ h' tk M t', (∀ b o, s.heap.get? b = some o → h'.get? b = some o) → M ∈ ns → (∀ a, a ∈ ns → M ≤ a) → Q (.int M t') { s with heap := h', toks := tk }) : wpAny (model prog w) A (call (.builtin "min") [.ref l]) Q E s := by
  obtain ⟨xs, e⟩ := hi.allInts.items
  have hn : numsOf (intItems xs).toList = ns := by rw [← e]; exact hi.numsOf
  rw [nums_intItems] at hn
  subst hn
  rw [e] at hl
  have hsz : 0 < xs.size := by simpa using hne
  refine PySem.min_intList hh hl hsz fun v h' tk hv hk => ?_
  obtain ⟨t, rfl⟩ := intItems_at hv
  obtain ⟨h1, h2⟩ := argBest_lt (numAt xs) (xs.size - 1)
  refine h h' tk _ t hk ?_ fun a ha => ?_
  · rw [numAt_eq]; exact PySem.getD_mem (by rw [List.length_map, Array.length_toList]; omega)
  · obtain ⟨j, hj, rfl⟩ := mem_getD ha
    rw [List.length_map, Array.length_toList] at hj
    rw [← numAt_eq]; exact h2 j (by omega)
end

section
variable {X : Cx}
def rMin (K : PySem.W.Frag) : List V → Hp → VK → Prop := fun vs H Q => ∃ (a : Addr) (ns : List Int), vs = [V.ref a] ∧ SqL K H a (ns.map V.int) ∧ 0 < ns.length ∧ ∀ m, m ∈ ns → (∀ y, y ∈ ns → m ≤ y) → Q (.int m) H
theorem cr_min (hc : X.calm = true) : CallR X (.builtin "min") (rMin X.K) := by
  intro pins s σ H vs us Q I r h
  obtain ⟨a, ns, rfl, hs, hne, q⟩ := h
  obtain ⟨its, rv, hl, _⟩ := I.list hs
  rw [Vals.ref1 r]
  exact min_raw (I.ok.hd hc) hl.isList rv.ints hne fun h' tk m t' hk h1 h2 => ⟨.int _, H, I.kept hk, ⟨_, rfl⟩, q m h1 h2⟩

end

section
variable {X : Cx}
def rIndex (K : PySem.W.Frag) : V → List V → Hp → VK → Prop := fun x xs H Q => ∃ (a : Addr) (ys : List V) (y : V) (j : Nat) (z : V), x = V.ref a ∧ xs = [y] ∧ SqL K H a ys ∧ flatV y = true ∧ ys.all flatV = true ∧ ys[j]? = some z ∧ eqV z y = true ∧
  (∀ (m : Nat) (z' : V), m < j → ys[m]? = some z' → eqV z' y = false) ∧ Q (.int (j : Nat)) H
theorem flat_at {ys : List V} (f : ys.all flatV = true) {j : Nat} {z : V} (h : ys[j]? = some z) : flatV z = true := List.all_eq_true.mp f z (List.mem_of_getElem? h)
theorem mt_index : MtR X "list.index" (rIndex X.K) := by
  intro pins s σ H x xs v us Q I rx rxs h
  obtain ⟨a, ys, y, j, z, rfl, rfl, hs, fy, fys, hz, hzj, hno, q⟩ := h
  cases rx
  cases rxs with
  | cons ry rt =>
    rename_i uy ut
    cases rt
    obtain ⟨its, rv, ⟨⟨cls, dd, data, sl⟩, n, ho, hc, hdn, hd⟩, hlen⟩ := I.list hs
    simp only at hc hd
    subst hc hd
    obtain ⟨u, hu, ru⟩ := rv.get hz
    obtain ⟨hjl, hje⟩ := List.getElem?_eq_some_iff.mp hu
    have hvl := rv.length
    have hj : j < its.toArray.size := by simpa using hjl
    have hsl := sizeLine_eq
    refine call_meets PySem.F.slot_list_index ⟨_, ho, rfl⟩ PySem.F.entry_list_index (PySem.F.args_list_index_2 _ _)
      (SeqAt.list_indexAt a its.toArray n dd sl uy (eqU y) j hj (by omega) ?_ ?_) ⟨ho, fun u' hu' => mem_eqAt ry fy rv fys u' (by simpa using hu'), ?_⟩
    · have e1 : its.toArray[j] = u := by simpa using hje
      rw [e1, eqU_of ru (flat_at fys hz)]
      exact hzj
    · intro m hm hmj
      have hml : m < its.length := by simpa using hm
      have hmy : m < ys.length := by omega
      have hy' : ys[m]? = some ys[m] := List.getElem?_eq_getElem hmy
      obtain ⟨u2, hu2, ru2⟩ := rv.get hy'
      obtain ⟨_, hme⟩ := List.getElem?_eq_some_iff.mp hu2
      have e1 : its.toArray[m] = u2 := by simpa using hme
      rw [e1, eqU_of ru2 (flat_at fys hy')]
      exact hno m _ hmj hy'
    · exact ⟨.int (j : Nat), H, I.tok _, ⟨_, rfl⟩, q⟩
end

section
variable {X : Cx}
end

section
variable {X : Cx}
end

mutual
inductive Dp (K : PySem.W.Frag) (H : Hp) : V → PyData → Prop
  | non : Dp K H .non .none
  | bl (b : Bool) : Dp K H (.bl b) (.bool b)
  | int (i : Int) : Dp K H (.int i) (.int i)
  | str (x : Str) : Dp K H (.str x) (.str x)
  | lst {a : Addr} {xs : List V} {ds : List PyData} : SqL K H a xs → DpAll K H xs ds → Dp K H (.ref a) (.list ds)
  | tup {a : Addr} {xs : List V} {ds : List PyData} : SqT K H a xs → DpAll K H xs ds → Dp K H (.ref a) (.tuple ds)
inductive DpAll (K : PySem.W.Frag) (H : Hp) : List V → List PyData → Prop
  | nil : DpAll K H [] []
  | cons {v : V} {vs : List V} {d : PyData} {ds : List PyData} : Dp K H v d → DpAll K H vs ds → DpAll K H (v :: vs) (d :: ds)
end
section
variable {X : Cx} {pins : List (Addr × Obj)} {σ : St} {H : Hp} {s : Shared}
mutual
theorem Dp.reads (I : Inv X pins σ H s) : ∀ (d : PyData) (v : V) (u : Value), Dp X.K H v d → RelV v u → ∃ as, Reads s.heap u d as
  | .none, _, _, h, r => by
    cases h
    cases r
    exact ⟨_, Reads.none⟩
  | .bool b, _, _, h, r => by
    cases h
    cases r
    exact ⟨_, Reads.bool b⟩
  | .int i, _, _, h, r => by
    cases h
    obtain ⟨t, rfl⟩ := r
    exact ⟨_, Reads.int i t⟩
  | .str x, _, _, h, r => by
    cases h
    obtain ⟨t, rfl⟩ := r
    exact ⟨_, Reads.str x t⟩
  | .list ds, _, _, h, r => by
    cases h with
    | lst hs ha =>
      cases r
      obtain ⟨its, rv, ⟨o, n, ho, hc, _, hd⟩, _⟩ := I.list hs
      obtain ⟨as, hr⟩ := Dp.readsAll I ds _ its ha rv
      exact ⟨_, Reads.list ho hc hd hr⟩
  | .tuple ds, _, _, h, r => by
    cases h with
    | tup hs ha =>
      cases r
      obtain ⟨its, rv, ⟨o, ho, hc, n, hd⟩, _⟩ := I.tuple hs
      obtain ⟨as, hr⟩ := Dp.readsAll I ds _ its ha rv
      exact ⟨_, Reads.tuple ho hc hd hr⟩
  | .dict _, _, _, h, _ => by cases h
theorem Dp.readsAll (I : Inv X pins σ H s) : ∀ (ds : List PyData) (vs : List V) (us : List Value), DpAll X.K H vs ds → Vals vs us → ∃ as, ReadsAll s.heap us ds as
  | [], _, _, h, r => by
    cases h
    cases r
    exact ⟨_, ReadsAll.nil⟩
  | d :: ds, _, _, h, r => by
    cases h with
    | cons h1 h2 =>
      cases r with
      | cons r1 r2 =>
        obtain ⟨as, q1⟩ := Dp.reads I d _ _ h1 r1
        obtain ⟨bs, q2⟩ := Dp.readsAll I ds _ _ h2 r2
        exact ⟨_, ReadsAll.cons q1 q2⟩
end
end
section
variable {X : Cx}
def rEqD (K : PySem.W.Frag) : R2 := fun x y H Q => ∃ d e, Dp K H x d ∧ Dp K H y e ∧ SeqAt.shaped d = true ∧ SeqAt.shaped e = true ∧ Q (.bl (PyData.eqv d e)) H
def rNeD (K : PySem.W.Frag) : R2 := fun x y H Q => ∃ d e, Dp K H x d ∧ Dp K H y e ∧ SeqAt.shaped d = true ∧ SeqAt.shaped e = true ∧ Q (.bl (!PyData.eqv d e)) H
theorem op_eqD (hu : X.A.units + 64 < cLine) : OpR X (compareOp .Eq) (rEqD X.K) := by
  intro pins s σ H x y v u Q I rx ry h
  obtain ⟨d, e, hd, he, sd, se, q⟩ := h
  obtain ⟨as, r1⟩ := Dp.reads I d x v hd rx
  obtain ⟨bs, r2⟩ := Dp.reads I e y u he ry
  exact SeqAt.compareEq_shaped r1 r2 sd se hu ⟨.bl _, H, I, rfl, q⟩
theorem op_neD (hu : X.A.units + 64 < cLine) : OpR X (compareOp .NotEq) (rNeD X.K) := by
  intro pins s σ H x y v u Q I rx ry h
  obtain ⟨d, e, hd, he, sd, se, q⟩ := h
  obtain ⟨as, r1⟩ := Dp.reads I d x v hd rx
  obtain ⟨bs, r2⟩ := Dp.reads I e y u he ry
  exact SeqAt.compareNe_shaped r1 r2 sd se hu ⟨.bl _, H, I, rfl, q⟩
end
end L2

namespace L2
open PySem PySem.Spec PyProof.Rows
abbrev CellAt (h : Heap) (c : Addr) (v : Option Value) : Prop := h.IsCell c v
def relS (scope sc : Scope) : Scope :=
  { scope with names := scope.names.map fun (n, k) => if (k == .free && sc.kind == .function && sc.names.lookup n == some .cell) then (n, .cell) else (n, k) }

def cloFrom (cells : List (Str × Addr)) : List (Str × NameKind) → List (Str × Addr) → List (Str × Addr)
  | [], acc => acc
  | (n, k) :: r, acc => if k == .free then cloFrom cells r ((n, (cells.lookup n).getD 0) :: acc) else cloFrom cells r acc

theorem closure_loop (env : Env) (f : Str × NameKind → List (Str × Addr) → Sem (ForInStep (List (Str × Addr))))
    (hf : ∀ n k c, f (n, k) c = if k == .free then (do let a ← cellOf env n; pure (.yield ((n, a) :: c))) else pure (.yield c)) :
    ∀ (names : List (Str × NameKind)) (acc : List (Str × Addr)), (∀ y ∈ names, y.2 = .free → ∃ c, env.cells.lookup y.1 = some c) → forIn names acc f = pure (cloFrom env.cells names acc)
  | [], acc, _ => by rw [List.forIn_nil]; rfl
  | (n, k) :: r, acc, h => by
    rw [List.forIn_cons, hf]
    have ih := fun acc => closure_loop env f hf r acc fun y hy => h y (List.mem_cons_of_mem _ hy)
    unfold cloFrom
    by_cases hk : (k == NameKind.free) = true
    · rw [if_pos hk, if_pos hk]
      obtain ⟨c, hc⟩ := h (n, k) List.mem_cons_self (by simpa using hk)
      have e : cellOf env n = pure c := by unfold cellOf; rw [hc]
      rw [e]
      have e2 : (env.cells.lookup n).getD 0 = c := by rw [hc]; rfl
      rw [e2]
      exact ih _
    · rw [if_neg hk, if_neg hk]
      exact ih _
theorem closure_ok {scope : Scope} {env : Env} (h : ∀ y ∈ scope.names, y.2 = .free → ∃ c, env.cells.lookup y.1 = some c) : closureFor scope env = pure (cloFrom env.cells scope.names []) := by
  simp only [closureFor]
  rw [closure_loop env _ (fun n k c => rfl) scope.names [] h]
  rfl

theorem mem_lookup {α : Type} : ∀ {l : List (Str × α)} {n : Str} {c : α}, (n, c) ∈ l → ∃ c', l.lookup n = some c'
  | (k, v) :: r, n, c, h => by
    rw [List.lookup_cons]
    cases hb : n == k with
    | true => exact ⟨_, rfl⟩
    | false =>
      rcases List.mem_cons.mp h with e | h
      · cases e; simp at hb
      · exact mem_lookup h

theorem cloFrom_mem {cells : List (Str × Addr)} : ∀ {names : List (Str × NameKind)} {acc : List (Str × Addr)} {n : Str} {c : Addr}, (n, c) ∈ cloFrom cells names acc → (n, c) ∈ acc ∨ ((n, .free) ∈ names ∧ c = (cells.lookup n).getD 0)
  | [], _, _, _, h => .inl h
  | (m, k) :: r, acc, n, c, h => by
    unfold cloFrom at h
    split at h
    · rename_i hk
      have hk : k = .free := by simpa using hk
      rcases cloFrom_mem h with h | ⟨h1, h2⟩
      · rcases List.mem_cons.mp h with e | h
        · cases e; exact .inr ⟨hk ▸ List.mem_cons_self, rfl⟩
        · exact .inl h
      · exact .inr ⟨List.mem_cons_of_mem _ h1, h2⟩
    · rcases cloFrom_mem h with h | ⟨h1, h2⟩
      · exact .inl h
      · exact .inr ⟨List.mem_cons_of_mem _ h1, h2⟩
theorem cloFrom_acc {cells : List (Str × Addr)} : ∀ {names : List (Str × NameKind)} {acc : List (Str × Addr)} {p : Str × Addr}, p ∈ acc → p ∈ cloFrom cells names acc
  | [], _, _, h => h
  | (m, k) :: r, acc, p, h => by
    unfold cloFrom
    split
    · exact cloFrom_acc (List.mem_cons_of_mem _ h)
    · exact cloFrom_acc h
theorem cloFrom_has {cells : List (Str × Addr)} : ∀ {names : List (Str × NameKind)} {acc : List (Str × Addr)} {n : Str}, (n, .free) ∈ names → (n, (cells.lookup n).getD 0) ∈ cloFrom cells names acc
  | (m, k) :: r, acc, n, h => by
    unfold cloFrom
    rcases List.mem_cons.mp h with e | h
    · cases e
      exact cloFrom_acc List.mem_cons_self
    · split
      · exact cloFrom_has h
      · exact cloFrom_has h

theorem cells_mem : ∀ {names : List (Str × NameKind)} {h : Heap} {acc : List (Str × Addr)} {x : Str} {c : Addr}, (x, c) ∈ cellsFrom h.objs.size names acc →
    (x, c) ∈ acc ∨ ((x, .cell) ∈ names ∧ h.objs.size ≤ c ∧ CellAt (pushCells h names) c none)
  | [], _, _, _, _, h => .inl h
  | (n, k) :: r, h, acc, x, c, hm => by
    unfold cellsFrom at hm
    unfold pushCells
    split at hm
    · rename_i hk
      rw [if_pos hk]
      have hk : k = .cell := by simpa using hk
      rw [← Heap.size_push h { cls := .type "cell", data := .cell none }] at hm
      rcases cells_mem hm with hm | ⟨h1, h2, h3⟩
      · rcases List.mem_cons.mp hm with e | hm
        · cases e
          exact .inr ⟨hk ▸ List.mem_cons_self, Nat.le_refl _, _, pushCells_keeps r _ _ _ (Heap.get?_push_size _ rfl), rfl⟩
        · exact .inl hm
      · rw [Heap.size_push] at h2
        exact .inr ⟨List.mem_cons_of_mem _ h1, Nat.le_of_succ_le h2, h3⟩
    · rename_i hk
      rw [if_neg hk]
      rcases cells_mem hm with hm | ⟨h1, h2, h3⟩
      · exact .inl hm
      · exact .inr ⟨List.mem_cons_of_mem _ h1, h2, h3⟩
theorem cells_acc : ∀ {names : List (Str × NameKind)} {n : Nat} {acc : List (Str × Addr)} {p : Str × Addr}, p ∈ acc → p ∈ cellsFrom n names acc
  | [], _, _, _, h => h
  | (m, k) :: r, n, acc, p, h => by
    unfold cellsFrom
    split
    · exact cells_acc (List.mem_cons_of_mem _ h)
    · exact cells_acc h
theorem cells_has : ∀ {names : List (Str × NameKind)} {n : Nat} {acc : List (Str × Addr)} {x : Str}, (x, .cell) ∈ names → ∃ c, (x, c) ∈ cellsFrom n names acc
  | (m, k) :: r, n, acc, x, h => by
    unfold cellsFrom
    rcases List.mem_cons.mp h with e | h
    · cases e
      exact ⟨n, cells_acc List.mem_cons_self⟩
    · split
      · exact cells_has h
      · exact cells_has h
theorem cells_inj : ∀ {names : List (Str × NameKind)} {h : Heap} {acc : List (Str × Addr)} {x y : Str} {c : Addr}, (∀ p ∈ acc, p.2 < h.objs.size) → (∀ x y c, (x, c) ∈ acc → (y, c) ∈ acc → x = y) →
    (x, c) ∈ cellsFrom h.objs.size names acc → (y, c) ∈ cellsFrom h.objs.size names acc → x = y
  | [], _, _, _, _, _, _, hi, h1, h2 => hi _ _ _ h1 h2
  | (n, k) :: r, h, acc, x, y, c, hl, hi, h1, h2 => by
    unfold cellsFrom at h1 h2
    split at h1
    · rename_i hk
      rw [if_pos hk] at h2
      rw [← Heap.size_push h { cls := .type "cell", data := .cell none }] at h1 h2
      refine cells_inj (h := h.push _) (fun p hp => ?_) (fun x y c a b => ?_) h1 h2
      · rw [Heap.size_push]
        rcases List.mem_cons.mp hp with rfl | hp
        · exact Nat.lt_succ_self _
        · exact Nat.lt_succ_of_lt (hl p hp)
      · rcases List.mem_cons.mp a with e | a <;> rcases List.mem_cons.mp b with e' | b
        · cases e; cases e'; rfl
        · cases e; exact absurd (hl _ b) (Nat.lt_irrefl _)
        · cases e'; exact absurd (hl _ a) (Nat.lt_irrefl _)
        · exact hi _ _ _ a b
    · rename_i hk
      rw [if_neg hk] at h2
      exact cells_inj hl hi h1 h2

theorem newEnv_comp {M : Model} {A : Around} {E : Value → Shared → Prop} {s : Shared} {scope : Scope} {globals : Addr} {closure : List (Str × Addr)} {qual : Str} {func : Option Addr} {code : Value} {around : Env} {builtins : Addr} {Q : Env → Shared → Prop}
    (h : Q (newEnv scope s.heap.objs.size globals (cellsFrom (s.heap.objs.size + 1) scope.names closure) qual func code (some around) builtins)
      { s with heap := pushCells (s.heap.push { cls := .type "dict", data := .dict #[] }) scope.names }) :
    wpAny M A (newFunctionEnv scope globals closure [] qual func code (some around) builtins) Q E s := by
  simp only [newFunctionEnv, Option.isSome_some, if_true]
  refine wpAny_bind (wpAny_alloc ?_)
  refine wpAny_bind (wpAny_layCells _ (fun n k c => rfl) scope.names closure _ _ ?_)
  rw [show ({ s with heap := s.heap.push { cls := .type "dict", data := .dict #[] } } : Shared).heap.objs.size = s.heap.objs.size + 1 from Heap.size_push ..]
  rw [List.forIn_nil]
  exact wpAny_bind (wpAny_pure (wpAny_pure h))

/-- every name of the written scope, in the scope that runs -/
theorem lookup_relS {sc : Scope} : ∀ {names : List (Str × NameKind)} {x : Str} {k : NameKind},
    (names.map fun (n, k) => if (k == NameKind.free && sc.kind == .function && sc.names.lookup n == some .cell) then (n, NameKind.cell) else (n, k)).lookup x = some k →
    ∃ k', names.lookup x = some k' ∧ (k = k' ∨ (k' = .free ∧ k = .cell))
  | [], _, _, h => by simp at h
  | (n, k₀) :: r, x, k, h => by
    have ih := @lookup_relS sc r x k
    have h' : List.lookup x ((if (k₀ == NameKind.free && sc.kind == .function && sc.names.lookup n == some .cell) = true then (n, NameKind.cell) else (n, k₀)) :: (r.map _)) = some k := h
    cases hx : x == n with
    | true =>
      simp only [List.lookup_cons, hx]
      by_cases hc : (k₀ == NameKind.free && sc.kind == .function && sc.names.lookup n == some .cell) = true
      · rw [if_pos hc] at h'
        simp only [List.lookup_cons, hx] at h'
        cases h'
        simp only [Bool.and_eq_true, beq_iff_eq] at hc
        exact ⟨k₀, rfl, .inr ⟨hc.1.1, rfl⟩⟩
      · rw [if_neg hc] at h'
        simp only [List.lookup_cons, hx] at h'
        cases h'
        exact ⟨_, rfl, .inl rfl⟩
    | false =>
      simp only [List.lookup_cons, hx]
      by_cases hc : (k₀ == NameKind.free && sc.kind == .function && sc.names.lookup n == some .cell) = true
      · rw [if_pos hc] at h'
        simp only [List.lookup_cons, hx] at h'
        exact ih h'
      · rw [if_neg hc] at h'
        simp only [List.lookup_cons, hx] at h'
        exact ih h'
/-- the names of a comprehension's block: its own (with their places in N), or captured -/
structure BlkOk (N : List Str) (sc scope : Scope) (own : List (Str × Nat)) : Prop where
  kind : scope.kind = .function
  uniq : ∀ y ∈ scope.names, scope.names.lookup y.1 = some y.2
  ix : ∀ p ∈ own, N[p.2]? = some p.1
  free : ∀ y ∈ scope.names, y.2 = .free → sc.names.lookup y.1 = some .cell ∨ sc.names.lookup y.1 = some .free
  own : ∀ y ∈ scope.names, y.2 = .local ∨ y.2 = .cell → y.1 ∈ own.map (·.1) ∨ y.1 ∉ N
/-- the slots of the block's own names forgotten -/
def wipe (σ : St) : List Nat → St
  | [] => σ
  | v :: vs => (wipe σ vs).set v none
theorem wipe_length (σ : St) : ∀ vs : List Nat, (wipe σ vs).length = σ.length
  | [] => rfl
  | v :: vs => by unfold wipe; rw [List.length_set, wipe_length σ vs]
theorem wipe_some {σ : St} {i : Nat} {x : V} : ∀ {vs : List Nat}, (wipe σ vs)[i]? = some (some x) → σ[i]? = some (some x) ∧ i ∉ vs
  | [], h => ⟨h, by simp⟩
  | v :: vs, h => by
    unfold wipe at h
    by_cases hi : v = i
    · subst hi
      by_cases hv : v < (wipe σ vs).length
      · rw [List.getElem?_set_self hv] at h; cases h
      · rw [List.getElem?_eq_none (by simpa using hv)] at h; cases h
    · rw [List.getElem?_set_ne hi] at h
      obtain ⟨h1, h2⟩ := wipe_some h
      exact ⟨h1, by simp only [List.mem_cons, not_or]; exact ⟨fun e => hi e.symm, h2⟩⟩

/-- the context of a block that starts at s, its iterator's objects at fp -/
abbrev Cx.blk (X : Cx) (s : Shared) (H : Hp) (scope : Scope) (cenv : Env) (fp : List Addr) : Cx := { X with s_0 := s, H_0 := H, env := cenv, outer := X.stack, ex := fp, fn := fun x => scope.names.lookup x == some .cell, pn := [], xe := fun _ _ => False }
section
variable {X : Cx} {pins : List (Addr × Obj)} {σ : St} {H : Hp} {s : Shared}
theorem block_start {scope : Scope} {own : List (Str × Nat)} {fp : List Addr} (I : Inv X pins σ H s) (ok : BlkOk X.N X.env.scope scope own) (hN : X.N.Nodup) (hfp : ∀ b ∈ fp, FpOk X pins H b ∧ b < s.heap.objs.size) :
    Inv (X.blk s H scope (compEnvC scope (cellsFrom (s.heap.objs.size + 1) scope.names (cloFrom X.env.cells scope.names [])) s.heap.objs.size X.env) fp) [] (wipe σ (own.map (·.2))) H { s with heap := pushCells (s.heap.push { cls := .type "dict", data := .dict #[] }) scope.names } := by
  have hfree : ∀ y ∈ scope.names, y.2 = .free → ∃ c, X.env.cells.lookup y.1 = some c := fun y hy e => by
    rcases ok.free y hy e with k | k
    · exact I.ok.has _ (.inl k)
    · exact I.ok.has _ (.inr k)
  generalize hcenv : compEnvC scope (cellsFrom (s.heap.objs.size + 1) scope.names (cloFrom X.env.cells scope.names [])) s.heap.objs.size X.env = cenv
  have kp : ∀ b o, s.heap.get? b = some o → (pushCells (s.heap.push { cls := .type "dict", data := .dict #[] }) scope.names).get? b = some o := fun b o e => pushCells_keeps _ _ _ _ (Heap.get?_push_of_some _ e)
  have hL : cenv.locals = s.heap.objs.size := by rw [← hcenv]; rfl
  have hcl : cenv.cells = cellsFrom (s.heap.objs.size + 1) scope.names (cloFrom X.env.cells scope.names []) := by rw [← hcenv]; rfl
  have hsc : cenv.scope = relS scope X.env.scope := by rw [← hcenv]; rfl
  rw [← Heap.size_push s.heap { cls := .type "dict", data := .dict #[] }] at hcl
  have cm : ∀ {y c}, (y, c) ∈ cloFrom X.env.cells scope.names [] → X.env.cells.lookup y = some c ∧ c < s.heap.objs.size := fun {y c} hm => by
    rcases cloFrom_mem hm with hm | ⟨h1, rfl⟩
    · cases hm
    · obtain ⟨c, hc⟩ := hfree _ h1 rfl
      rw [hc]
      obtain ⟨w, z⟩ := I.cell _ _ hc
      exact ⟨rfl, z.lt⟩
  have mem : ∀ {y c}, cenv.cells.lookup y = some c → (X.env.cells.lookup y = some c ∧ c < s.heap.objs.size) ∨ (s.heap.objs.size + 1 ≤ c ∧ CellAt (pushCells (s.heap.push { cls := .type "dict", data := .dict #[] }) scope.names) c none) := fun {y c} e => by
    rw [hcl] at e
    rcases cells_mem (PySem.mem_of_lookup e) with hm | ⟨_, h2, h3⟩
    · exact .inl (cm hm)
    · rw [Heap.size_push] at h2; exact .inr ⟨h2, h3⟩
  have look : ∀ {y}, scope.names.lookup y = some .free → ∃ c, cenv.cells.lookup y = some c ∧ X.env.cells.lookup y = some c := fun {y} hl => by
    have hy : (y, NameKind.free) ∈ scope.names := PySem.mem_of_lookup hl
    obtain ⟨c', e'⟩ := mem_lookup (cells_acc (names := scope.names) (n := (s.heap.push { cls := .type "dict", data := .dict #[] }).objs.size) (cloFrom_has (cells := X.env.cells) (acc := []) hy))
    rw [← hcl] at e'
    refine ⟨c', e', ?_⟩
    rw [hcl] at e'
    rcases cells_mem (PySem.mem_of_lookup e') with hm | ⟨h1, _, _⟩
    · exact (cm hm).1
    · have := ok.uniq _ h1
      rw [hl] at this; cases this
  have okB : (X.blk s H scope cenv fp).Ok := by
    refine ⟨I.ok.mod, by show cenv.scope.kind = _; rw [hsc]; exact ok.kind, by show cenv.globals = _; rw [← hcenv]; exact I.ok.glob, by show cenv.builtins = _; rw [← hcenv]; exact I.ok.blt, by show s.heap.objs.size ≤ cenv.locals; rw [hL]; exact Nat.le_refl _,
      fun y z c e1 e2 => ?_, fun y hy => ?_, fun y c z e => ?_, I.ok.hd, I.ok.frames, .inl rfl, fun b hb => ⟨?_, fun y c e z => ?_⟩, I.bs, Nat.le_trans I.ok.bsz I.sz, fun b o e hb => ?_, fun b hb z => ?_, I.stack, I.stkFree⟩
    · have e1 : cenv.cells.lookup y = some c := e1
      have e2 : cenv.cells.lookup z = some c := e2
      rw [hcl] at e1 e2
      refine cells_inj (fun p hp => ?_) (fun y z c a b => I.ok.inj y z c (cm a).1 (cm b).1) (PySem.mem_of_lookup e1) (PySem.mem_of_lookup e2)
      rw [Heap.size_push]
      exact Nat.lt_succ_of_lt (cm (y := p.1) (c := p.2) hp).2
    · show ∃ c, cenv.cells.lookup y = some c
      have key : ∀ k, cenv.kindOf y = some k → (k = .cell ∨ k = .free) → ∃ c, cenv.cells.lookup y = some c := fun k hk hk' => by
        unfold Env.kindOf at hk
        rw [hsc] at hk
        obtain ⟨k', e, r⟩ := lookup_relS hk
        have : k' = .cell ∨ k' = .free := by
          rcases r with rfl | ⟨rfl, _⟩
          · exact hk'
          · exact .inr rfl
        rcases this with rfl | rfl
        · obtain ⟨c, hm⟩ := cells_has (n := (s.heap.push { cls := .type "dict", data := .dict #[] }).objs.size) (acc := cloFrom X.env.cells scope.names []) (PySem.mem_of_lookup e)
          obtain ⟨c', e'⟩ := mem_lookup hm
          exact ⟨c', by rw [hcl]; exact e'⟩
        · obtain ⟨c, h1, _⟩ := look e
          exact ⟨c, h1⟩
      rcases hy with hy | hy
      · exact key _ hy (.inl rfl)
      · exact key _ hy (.inr rfl)
    · have z : (scope.names.lookup y == some NameKind.cell) = true := z
      have z : scope.names.lookup y = some .cell := by simpa using z
      have e : cenv.cells.lookup y = some c := e
      rw [hcl] at e
      rcases cells_mem (PySem.mem_of_lookup e) with hm | ⟨_, h2, _⟩
      · rcases cloFrom_mem hm with hm | ⟨h1, _⟩
        · cases hm
        · have q := ok.uniq _ h1
          rw [z] at q; cases q
      · rw [Heap.size_push] at h2
        exact Nat.le_of_succ_le h2
    · show b ≠ cenv.locals
      rw [hL]; exact Nat.ne_of_lt (hfp b hb).2
    · have e : cenv.cells.lookup y = some c := e
      rcases mem e with ⟨h1, _⟩ | ⟨h1, _⟩
      · exact (hfp b hb).1.2.2.2.2.1 y c h1 z
      · have h2 : s.heap.objs.size + 1 ≤ b := by rw [← z]; exact h1
        exact absurd (Nat.lt_of_lt_of_le (hfp b hb).2 (Nat.le_of_succ_le h2)) (Nat.lt_irrefl _)
    · rcases (hfp b hb).1.2.2.2.1 with z | z
      · exact I.ok.noex b o e z
      · exact absurd (Nat.lt_of_lt_of_le (Heap.lt_size e) (Nat.le_trans I.ok.bsz z)) (Nat.lt_irrefl _)
    · rcases List.mem_cons.mp (I.stkSub b z) with z | z
      · exact (hfp b hb).1.2.1 z
      · exact (hfp b hb).1.2.2.1 z
  refine ⟨okB, rfl, I.bare, Un.kept kp, ⟨fun _ => none, ?_, fun i y av e1 e2 e3 => ?_⟩, fun y c e => ?_, ?_, fun y c e => ?_, fun p hp => ?_, I.hok.kept kp, by rw [wipe_length]; exact I.len⟩
  · show Heap.Ns _ cenv.locals _
    rw [hL]
    exact Heap.Ns.keeps (Heap.Ns.new ..) fun b o e => pushCells_keeps _ _ _ _ e
  · obtain ⟨e2, hne⟩ := wipe_some e2
    have hfr : scope.names.lookup y = some .free ∧ (cenv.kindOf y = some .cell ∨ cenv.kindOf y = some .free) := by
      have key : ∀ k, cenv.scope.names.lookup y = some k → k = .local ∨ k = .cell ∨ k = .free → scope.names.lookup y = some .free ∧ (cenv.kindOf y = some .cell ∨ cenv.kindOf y = some .free) := fun k hk hk' => by
        have hk0 := hk
        rw [hsc] at hk
        obtain ⟨k', e, r⟩ := lookup_relS hk
        have no : ¬ (k' = .local ∨ k' = .cell) := fun hh => by
          rcases ok.own _ (PySem.mem_of_lookup e) hh with e' | e'
          · obtain ⟨p, hp, hpy⟩ := List.mem_map.mp e'
            have e3 := ok.ix p hp
            have : p.1 = y := hpy
            rw [this] at e3
            exact hne (List.mem_map.mpr ⟨p, hp, nodup_ix hN e3 e1⟩)
          · exact e' (List.mem_of_getElem? e1)
        rcases r with rfl | ⟨rfl, rfl⟩
        · rcases hk' with rfl | rfl | rfl
          · exact absurd (.inl rfl) no
          · exact absurd (.inr rfl) no
          · exact ⟨e, .inr hk0⟩
        · exact ⟨e, .inl hk0⟩
      have e3 : Vis cenv.scope y := e3
      rcases e3 with e3 | e3 | e3
      · exact key _ e3 (.inl rfl)
      · exact key _ e3 (.inr (.inl rfl))
      · exact key _ e3 (.inr (.inr rfl))
    obtain ⟨m, hn, hl⟩ := I.loc
    have hvis : Vis X.env.scope y := (ok.free _ (PySem.mem_of_lookup hfr.1) rfl).elim (fun k => .inr (.inl k)) (fun k => .inr (.inr k))
    obtain ⟨w, r, q⟩ := hl i y av e1 e2 hvis
    refine ⟨w, r, .inr ⟨hfr.2, ?_⟩⟩
    obtain ⟨c, h1, h2⟩ := look hfr.1
    rcases q with ⟨k, _⟩ | ⟨_, c', e', z⟩
    · have k : X.env.scope.names.lookup y = some .local := k
      rcases ok.free _ (PySem.mem_of_lookup hfr.1) rfl with k' | k' <;> rw [show X.env.scope.names.lookup y = _ from k'] at k <;> cases k
    · rw [h2] at e'; cases e'
      exact ⟨c, h1, z.keeps kp⟩
  · have e : cenv.cells.lookup y = some c := e
    rcases mem e with ⟨h1, _⟩ | ⟨_, z⟩
    · obtain ⟨w, z⟩ := I.cell y c h1
      exact ⟨w, z.keeps kp⟩
    · exact ⟨_, z⟩
  · show H cenv.locals = none
    rw [hL]; exact I.hok.fresh (Nat.le_refl _)
  · have e : cenv.cells.lookup y = some c := e
    rcases mem e with ⟨h1, _⟩ | ⟨h1, _⟩
    · exact I.freeC y c h1
    · exact I.hok.fresh (Nat.le_of_succ_le h1)
  · exact absurd (show p ∈ ([] : List (Addr × Obj)) ++ [] from hp) (by simp)

/-- an item appended to a tracked list -/
theorem app_ok {E : Value → Shared → Prop} {D : Addr} {xs : List V} {y : V} {v : Value} {Q : Value → Shared → Prop} (I : Inv X pins σ H s) (hD : H D = some (.lst xs)) (hz : xs.length < sizeLine) (r : RelV y v)
    (h : ∀ s', Inv X pins σ (upd H D (.lst (xs ++ [y]))) s' → Q .none s') : wpAny (model X.prog X.w) X.A (call (.builtin "list.append") [.ref D, v]) Q E s := by
  obtain ⟨hz', its, n, ri, e⟩ := I.hok D _ hD
  have hl := ri.length
  refine append_at (hsz := by rw [List.size_toArray]; omega) e fun h' sb ho' => ?_
  refine h { s with heap := h' } (I.write (t' := s.toks) (by rw [hD]; trivial) (.inl rfl) (fun b u hb q => (sb.2 b hb).trans q) ⟨_, ho'⟩ ⟨by rw [List.length_append]; exact hz, its ++ [v], n + 1, ri.append (.cons r .nil), ?_⟩)
  rw [ho']
  simp

/-- a clause's tests -/
def PTs (X : Cx) (ifs : List Expr) (t : TT) : Prop :=
  ∀ (pins : List (Addr × Obj)) (s : Shared) (σ : St) (H : Hp) (Q : Bool → Hp → Prop), Inv X pins σ H s → t σ H Q →
    wpAny (model X.prog X.w) X.A (forIn ifs true fun c r => if r = true then do let ok ← isTrue c X.env (eval c X.env); pure (ForInStep.yield ok) else pure (ForInStep.yield r)) (TP X pins σ Q) X.xe s
def tYes : TT := fun _ H Q => Q true H
theorem pts_nil : PTs X [] tYes := fun _ _ _ H _ I h => wpAny_tests_nil ⟨H, I, h⟩
theorem pts_one {c : Expr} {t : TT} (h : PT X c t) : PTs X [c] t := fun pins s σ H Q I hw => wpAny_tests_one (h pins s σ H Q I hw)
end

theorem thnF {α : Type} {t : Sem α} {Q Q' : α → Shared → Prop} {M : Model} {A : Around} {E : Value → Shared → Prop} {s : Shared} (h : wpAny M A t Q (fun _ _ => False) s) (hQ : ∀ a s, Q a s → Q' a s) : wpAny M A t Q' E s := wpAny_mono h hQ fun _ _ z => False.elim z

/-- the loop of a list comprehension's block, the target of any form (codeAny_compLoop_tests asks a target that no tuple goes to; statement and proof follow it, PyProof/CompMap.lean:41-61, with the step letOwnedTupleGo kept) -/
theorem compLoop_any {prog : Program} {w : World} {A : Around} {R : Result → Shared → Prop} {s : Shared} {elt target iter : Expr} {ifs : List Expr} {scope : Scope} {pos : Pos} {it acc : Value} {env : Env} (I : Nat → Shared → Prop)
    (turn : ∀ n s, I n s → wpAny (model prog w) A (pyNext it) (fun r s₁ => match r with
      | none => R (.ok .next) s₁
      | some v => wpAny (model prog w) A (letOwnedTupleGo target it v) (fun _ s₁' => wpAny (model prog w) A (assign target env v) (fun _ s₂ =>
          wpAny (model prog w) A (forIn ifs true fun c r => if r = true then do let ok ← isTrue c env (eval c env); pure (ForInStep.yield ok) else pure (ForInStep.yield r)) (fun ok s₃ =>
            if ok = true then wpAny (model prog w) A (eval elt env) (fun x s₄ =>
              wpAny (model prog w) A (call (.builtin "list.append") [acc, x]) (fun _ s₅ => ∃ m, m < n ∧ I m s₅) (notedBy (model prog w) A env fun e s' => R (.error e) s') s₄) (notedBy (model prog w) A env fun e s' => R (.error e) s') s₃
            else ∃ m, m < n ∧ I m s₃) (notedBy (model prog w) A env fun e s' => R (.error e) s') s₂) (notedBy (model prog w) A env fun e s' => R (.error e) s') s₁') (notedBy (model prog w) A env fun e s' => R (.error e) s') s₁) (notedBy (model prog w) A env fun e s' => R (.error e) s') s)
    (n : Nat) (h : I n s) :
    codeAny (model prog w) A (.compLoop (.ListComp elt [⟨target, iter, ifs, 0⟩] scope pos) 0 it acc env) R s := by
  refine codeAny_loop rfl I (fun n s hI => ?_) n h
  show wpAny _ A ((compTurn (.ListComp elt [⟨target, iter, ifs, 0⟩] scope pos) 0 it acc env).onRaise (fun x => do noteFrame x env; theTreesLotGoes x)) _ _ s
  refine wpAny_noted ?_
  rw [compTurn_list]
  refine wpAny_bind (wpAny_standAt (wpAny_bind (wpAny_mono (turn n s hI) (fun r s₁ h₁ => ?_) fun _ _ h' => h')))
  cases r with
  | none => exact wpAny_pure h₁
  | some v =>
    refine wpAny_bind (wpAny_mono h₁ (fun _ s₁' h₁' => ?_) fun _ _ h' => h')
    refine wpAny_bind (wpAny_mono h₁' (fun _ s₂ h₂ => wpAny_bind (wpAny_mono h₂ (fun ok s₃ h₃ => ?_) fun _ _ h' => h')) fun _ _ h' => h')
    cases ok with
    | false => exact wpAny_pure ⟨rfl, h₃⟩
    | true =>
      exact wpAny_bind (wpAny_bind (wpAny_mono h₃ (fun x s₄ h₄ => wpAny_bind (wpAny_mono h₄ (fun _ s₅ h₅ => wpAny_pure (wpAny_pure ⟨rfl, h₅⟩)) fun _ _ h' => h')) fun _ _ h' => h'))

section
variable {X : Cx}
/-- [elt for target in iter if ..]: D the new list; W by the turn and a measure, Nx what a turn is to reach -/
def tLc (wi : TI) (g : TG) (tt : TT) (te : TE) (vs : List Nat) : TE := fun σ H Q => wi σ H fun J H1 => ∀ D, H1 D = none → ∃ W : Nat → Nat → Hp → Prop, (∃ m, W 0 m (upd H1 D (.lst []))) ∧ ∀ i m H, W i m H →
  (J.stop i H ∧ Q (.ref D) H) ∨ (J.go i H ∧ ∃ Nx : Hp → Prop, (∀ H', Nx H' → ∃ m', m' < m ∧ W (i + 1) m' H') ∧ ∀ x H', J.yld i H x H' → g x (wipe σ vs) H' fun σ2 H2 => wipe σ2 vs = wipe σ vs ∧ tt σ2 H2 fun b H3 =>
    if b = true then te σ2 H3 fun y H4 => ∃ acc, H4 D = some (.lst acc) ∧ acc.length < sizeLine ∧ Nx (upd H4 D (.lst (acc ++ [y]))) else Nx H3)
theorem lc_core {pins : List (Addr × Obj)} {s : Shared} {σ : St} {H : Hp} {Q : VK} {elt tg iter : Expr} {ifs : List Expr} {scope : Scope} {own : List (Str × Nat)} {pos pos' : Pos} {wi : TI} {g : TG} {tt : TT} {te : TE} {use : Option (Value → Sem Unit)} {Qf : Value → Shared → Prop}
    (hc : X.calm = true) (hN : X.N.Nodup) (I : Inv X pins σ H s) (hi : PI X tg iter wi) (ok : BlkOk X.N X.env.scope scope own)
    (hg : ∀ (s : Shared) (H : Hp) (C : Addr) (cl : List (Str × Addr)) (fp : List Addr), PG (X.blk s H scope (compEnvC scope cl C X.env) fp) tg g) (ht : ∀ (s : Shared) (H : Hp) (C : Addr) (cl : List (Str × Addr)) (fp : List Addr), PTs (X.blk s H scope (compEnvC scope cl C X.env) fp) ifs tt)
    (he : ∀ (s : Shared) (H : Hp) (C : Addr) (cl : List (Str × Addr)) (fp : List Addr), PE (X.blk s H scope (compEnvC scope cl C X.env) fp) elt te) (hs : ∀ x, foldedSetIterable iter X.env x = pure x)
    (h : tLc wi g tt te (own.map (·.2)) σ H Q)
    (hRR : ∀ D C s' m H', Inv X pins σ H' s' → Q (.ref D) H' → s'.heap.Ns C m → FpOk X pins H' C → compPost (model X.prog X.w) X.A X.xe use Qf (.ref D) C (.ok .next) s') :
    wpAny (model X.prog X.w) X.A (comprehension (.ListComp elt [⟨tg, iter, ifs, 0⟩] scope pos) scope X.env pos' (newList []) false (eval iter X.env) use) Qf X.xe s := by
  have hfree : ∀ y ∈ scope.names, y.2 = .free → ∃ c, X.env.cells.lookup y.1 = some c := fun y hy e => by
    rcases ok.free y hy e with k | k
    · exact I.ok.has _ (.inl k)
    · exact I.ok.has _ (.inr k)
  refine wpAny_comprehension_free (use := use) rfl hs (closure_ok hfree) ok.kind (fun y hy e => by rw [ok.uniq y hy, e])
    (thn (hi pins s σ H _ I h) fun xv s1 hx => thn hx fun itv s2 h2 => ?_)
  obtain ⟨it, fp, tn, J, H2, e, I2, T, st2, f2, q⟩ := h2
  subst e
  refine wpAny_newObj_type (newEnv_comp ?_) (by show 0 ≤ sizeLine; decide)
  generalize hD : s2.heap.objs.size = D
  have hDn : H2 D = none := I2.hok.fresh (Nat.le_of_eq hD)
  obtain ⟨W, ⟨m0, w0⟩, turn⟩ := q D hDn
  -- the new list
  generalize hs3 : ({ s2 with heap := s2.heap.push { cls := .type "list", data := .seq ([] : List Value).toArray } } : Shared) = s3
  have I3 : Inv X pins σ (upd H2 D (.lst [])) s3 := by
    rw [← hs3]
    refine I2.laid (t' := s2.toks) (fun b o e => Heap.get?_push_of_some _ e) (Nat.le_of_eq hD) ⟨Nat.zero_le _, [], 0, .nil, ?_⟩
    rw [← hD]
    exact Heap.get?_push_size _ rfl
  have h3 : s3.heap = s2.heap.push { cls := .type "list", data := .seq ([] : List Value).toArray } := by rw [← hs3]
  have sz : ∀ b ∈ fp, b < s2.heap.objs.size := fun b hb => by
    obtain ⟨o, e, _⟩ := T.obj _ _ st2 b hb
    exact Heap.lt_size e
  have f3 : ∀ b ∈ fp, FpOk X pins (upd H2 D (.lst [])) b ∧ b < s3.heap.objs.size := fun b hb => by
    have hlt := sz b hb
    refine ⟨⟨?_, (f2 b hb).2⟩, by rw [h3, Heap.size_push]; exact Nat.lt_succ_of_lt hlt⟩
    rw [upd_ne (by rw [← hD]; exact Nat.ne_of_lt hlt)]
    exact (f2 b hb).1
  have st3 : tn 0 s3.heap := T.keep _ _ _ st2 fun b _ o e => by rw [h3]; exact Heap.get?_push_of_some _ e
  have I4 := block_start I3 ok hN f3
  have pg := hg s3 (upd H2 D (.lst [])) s3.heap.objs.size (cellsFrom (s3.heap.objs.size + 1) scope.names (cloFrom X.env.cells scope.names [])) fp
  have pt := ht s3 (upd H2 D (.lst [])) s3.heap.objs.size (cellsFrom (s3.heap.objs.size + 1) scope.names (cloFrom X.env.cells scope.names [])) fp
  have pe := he s3 (upd H2 D (.lst [])) s3.heap.objs.size (cellsFrom (s3.heap.objs.size + 1) scope.names (cloFrom X.env.cells scope.names [])) fp
  show codeAny _ _ (.compStart (.ListComp elt [⟨tg, iter, ifs, 0⟩] scope pos) 0 (.ref it) (.ref D) (compEnvC scope (cellsFrom (s3.heap.objs.size + 1) scope.names (cloFrom X.env.cells scope.names [])) s3.heap.objs.size X.env)) (compPost (model X.prog X.w) X.A X.xe use Qf (.ref D) s3.heap.objs.size) { s3 with heap := pushCells (s3.heap.push { cls := .type "dict", data := .dict #[] }) scope.names }
  have nfp : ∀ b ∈ fp, (upd H2 D (.lst [])) b = none := fun b hb => (f3 b hb).1.1
  generalize hce : compEnvC scope (cellsFrom (s3.heap.objs.size + 1) scope.names (cloFrom X.env.cells scope.names [])) s3.heap.objs.size X.env = ce at I4 pg pt pe ⊢
  have cL : ce.locals = s3.heap.objs.size := by subst hce; rfl
  generalize hH3 : upd H2 D (.lst []) = H3 at I3 I4 pg pt pe w0 nfp f3
  generalize hs4 : ({ s3 with heap := pushCells (s3.heap.push { cls := .type "dict", data := .dict #[] }) scope.names } : Shared) = s4 at I4 ⊢
  have st4 : tn 0 s4.heap := T.keep _ _ _ st3 fun b _ o e => by rw [← hs4]; exact pushCells_keeps _ _ _ _ (Heap.get?_push_of_some _ e)
  have stat : ∀ {σ' : St} {H' : Hp} {s' : Shared}, Inv (X.blk s3 H3 scope ce fp) [] σ' H' s' → (∀ b ∈ fp, H' b = none) → ∀ b ∈ fp, FpOk (X.blk s3 H3 scope ce fp) [] H' b := fun {σ' H' s'} I' hn b hb =>
    ⟨hn b hb, (I'.ok.exf b hb).1, I'.ok.exfs b hb, .inl hb, fun x c e => (I'.ok.exf b hb).2 x c e, fun p hp => absurd (show p ∈ ([] : List (Addr × Obj)) ++ [] from hp) (by simp)⟩
  have loop : codeAny (model X.prog X.w) X.A (.compLoop (.ListComp elt [⟨tg, iter, ifs, 0⟩] scope pos) 0 (.ref it) (.ref D) ce) (compPost (model X.prog X.w) X.A X.xe use Qf (.ref D) s3.heap.objs.size) s4 := by
    refine compLoop_any (fun n s' => ∃ i H', Inv (X.blk s3 H3 scope ce fp) [] (wipe σ (own.map (·.2))) H' s' ∧ tn i s'.heap ∧ (∀ b ∈ fp, H' b = none) ∧ W i n H') ?_ m0 ⟨0, H3, I4, st4, nfp, w0⟩
    rintro n s5 ⟨i, H5, I5, st5, n5, w5⟩
    rcases turn i n H5 w5 with ⟨stop, qq⟩ | ⟨go, Nx, hNx, step⟩
    · have td := T.done (X.blk s3 H3 scope ce fp) rfl rfl rfl hc i [] s5 _ H5 (fun _ _ => False) I5 (stat I5 n5) st5 stop
      refine thnF td fun r s6 ⟨hr, I6⟩ => ?_
      subst hr
      -- back in the def's context
      have I7 : Inv X pins σ H5 s6 := I3.call' (ch := fp) I6.os I6.base I6.hok I6.bare fun b hb => ⟨(f3 b hb).1.2.2.2.1, (f3 b hb).1.2.1, (f3 b hb).1.2.2.2.2.1, (f3 b hb).1.2.2.2.2.2⟩
      have nC : H5 s3.heap.objs.size = none := by
        have z : H5 ce.locals = none := I6.free
        rw [cL] at z
        exact z
      obtain ⟨m, hn, _⟩ := I6.loc
      have hn : s6.heap.Ns ce.locals m := hn
      rw [cL] at hn
      exact hRR D s3.heap.objs.size s6 m H5 I7 qq hn (I3.fpOk (Nat.le_refl _) nC)
    · have ti := T.item (X.blk s3 H3 scope ce fp) rfl rfl rfl hc i [] s5 _ H5 (fun _ _ => False) I5 (stat I5 n5) st5 go
      refine thnF ti fun r s6 ⟨u, hr, h6⟩ => ?_
      subst hr
      refine thnF h6 fun _ s7 ⟨x, H7, I7, r7, y7, st7, n7⟩ => ?_
      have I7' := I7.pinned (stat I7 n7) (T.obj _ _ st7)
      refine thnF (pg _ s7 _ H7 x u _ I7' r7 (step x H7 y7)) fun _ s8 ⟨σ8, H8, I8, hw8, q8⟩ => ?_
      refine thnF (pt _ s8 σ8 H8 _ I8 q8) fun b s9 ⟨H9, I9, q9⟩ => ?_
      -- the turn's end
      have fin : ∀ {s' : Shared} {H' : Hp}, Inv (X.blk s3 H3 scope ce fp) ([] ++ pinsAt fp s7.heap) σ8 H' s' → Nx H' → ∃ m, m < n ∧ ∃ i H', Inv (X.blk s3 H3 scope ce fp) [] (wipe σ (own.map (·.2))) H' s' ∧ tn i s'.heap ∧ (∀ b ∈ fp, H' b = none) ∧ W i m H' := fun {s' H'} I' nx => by
        obtain ⟨m', hm, w'⟩ := hNx H' nx
        have pin' : ∀ b ∈ fp, ∀ o, s7.heap.get? b = some o → s'.heap.get? b = some o ∧ H' b = none := fun b hb o e =>
          let z := I'.pin (b, o) (List.mem_append_right _ (List.mem_append_right _ (mem_pinsAt hb e)))
          ⟨z.1, z.2.1⟩
        have hl : (wipe σ (own.map (·.2))).length = σ8.length := by rw [← hw8, wipe_length]
        refine ⟨m', hm, i + 1, H', (I'.unpinned (pins := [])).weak hl (fun j v e => ?_), T.keep _ _ _ st7 fun b hb o e => (pin' b hb o e).1, fun b hb => ?_, w'⟩
        · rw [← hw8] at e
          exact (wipe_some e).1
        · obtain ⟨o, e, _⟩ := T.obj _ _ st7 b hb
          exact (pin' b hb o e).2
      cases b with
      | false =>
        simp only [Bool.false_eq_true, if_false] at q9 ⊢
        exact fin I9 q9
      | true =>
        simp only [if_true] at q9 ⊢
        refine thnF (pe _ s9 σ8 H9 _ I9 q9) fun z s10 ⟨yv, H10, I10, r10, acc, hD10, hz10, nx⟩ => ?_
        exact app_ok (X := X.blk s3 H3 scope ce fp) I10 hD10 hz10 r10 fun s11 I11 => fin I11 nx
  exact codeAny_compStart_list loop (T.self X.A 0 _ _ _ st4 loop)
/-- as a value -/
theorem pe_lc {elt tg iter : Expr} {ifs : List Expr} {scope : Scope} {own : List (Str × Nat)} {pos : Pos} {wi : TI} {g : TG} {tt : TT} {te : TE} (hc : X.calm = true) (hN : X.N.Nodup) (hi : PI X tg iter wi) (ok : BlkOk X.N X.env.scope scope own)
    (hg : ∀ (s : Shared) (H : Hp) (C : Addr) (cl : List (Str × Addr)) (fp : List Addr), PG (X.blk s H scope (compEnvC scope cl C X.env) fp) tg g) (ht : ∀ (s : Shared) (H : Hp) (C : Addr) (cl : List (Str × Addr)) (fp : List Addr), PTs (X.blk s H scope (compEnvC scope cl C X.env) fp) ifs tt)
    (he : ∀ (s : Shared) (H : Hp) (C : Addr) (cl : List (Str × Addr)) (fp : List Addr), PE (X.blk s H scope (compEnvC scope cl C X.env) fp) elt te) (hs : ∀ x, foldedSetIterable iter X.env x = pure x := by intro _; rfl) :
    PE X (.ListComp elt [⟨tg, iter, ifs, 0⟩] scope pos) (tLc wi g tt te (own.map (·.2))) := by
  intro pins s σ H Q I h
  rw [eval_ListComp]
  refine lc_core hc hN I hi ok hg ht he hs h fun D C s' m H' I' q hn f => ⟨m, hn, fun h'' sb => ?_⟩
  obtain ⟨f0, f1, f2, f3, f4, f5⟩ := f
  exact ⟨.ref D, H', I'.turned (t' := s'.toks) (fun b o hb e => (sb.2 b hb).trans e) f0 f1 f3 f4 f5, rfl, q⟩
/-- name = [..] on one line, the name a local -/
theorem ps_setLc {i : Nat} {y : Str} {py : Pos} {elt tg iter : Expr} {ifs : List Expr} {scope : Scope} {own : List (Str × Nat)} {pos spos : Pos} {wi : TI} {g : TG} {tt : TT} {te : TE} (hc : X.calm = true) (hN : X.N.Nodup) (hy : X.N[i]? = some y) (hyl : X.env.scope.names.lookup y = some .local)
    (hsw : swapsWith (.ListComp elt [⟨tg, iter, ifs, 0⟩] scope pos) (some (.Name y py)) spos.line X.env = pure true) (hi : PI X tg iter wi) (ok : BlkOk X.N X.env.scope scope own)
    (hg : ∀ (s : Shared) (H : Hp) (C : Addr) (cl : List (Str × Addr)) (fp : List Addr), PG (X.blk s H scope (compEnvC scope cl C X.env) fp) tg g) (ht : ∀ (s : Shared) (H : Hp) (C : Addr) (cl : List (Str × Addr)) (fp : List Addr), PTs (X.blk s H scope (compEnvC scope cl C X.env) fp) ifs tt)
    (he : ∀ (s : Shared) (H : Hp) (C : Addr) (cl : List (Str × Addr)) (fp : List Addr), PE (X.blk s H scope (compEnvC scope cl C X.env) fp) elt te) (hs : ∀ x, foldedSetIterable iter X.env x = pure x := by intro _; rfl) :
    PS X (.Assign [.Name y py] (.ListComp elt [⟨tg, iter, ifs, 0⟩] scope pos) spos) (tAsg (tLc wi g tt te (own.map (·.2))) (gName i)) := by
  intro pins s σ H D I h
  rw [exec_Assign_Name_used _ _ _ _ hsw]
  refine wpAny_bind (wpAny_standAt (wpAny_bind ?_))
  show wpAny _ X.A (do let _ ← comprehension (.ListComp elt [⟨tg, iter, ifs, 0⟩] scope pos) scope X.env (firstIterPos [⟨tg, iter, ifs, 0⟩] pos) (newList []) false (eval iter X.env) (some (assign (.Name y py) X.env))) _ _ s
  have h : tLc wi g tt te (own.map (·.2)) σ H (fun x H1 => gName i x σ H1 D.nx) := h
  refine wpAny_bind (thn (lc_core (Qf := fun _ s' => SP X pins D .next s') hc hN I hi ok hg ht he hs h fun L C s' m H' I' q hn f => ?_) fun _ s' hq => wpAny_pure (wpAny_pure hq))
  show wpAny _ _ (assign (.Name y py) X.env (.ref L)) _ _ _
  refine wpAny_assign_Name (store_ok2 (v := V.ref L) I' hN hy (.inl hyl) rfl (fun s2 I2 ⟨a, sb, ha⟩ => ?_) (.inr hyl))
  obtain ⟨f0, f1, f2, f3, f4, f5⟩ := f
  have haC : C ≠ a := by
    rcases ha with z | z
    · rw [z]; exact f1
    · exact fun e => f4 y a z e.symm
  refine ⟨m, hn.sameBut sb haC, fun h3 sb3 => ?_⟩
  exact ⟨_, H', I2.turned (t' := s2.toks) (fun b o hb e => (sb3.2 b hb).trans e) f0 f1 f3 f4 f5, q⟩
theorem sw_true {elt : Expr} {gs : List Comprehension} {scope : Scope} {pos py : Pos} {y : Str} {l : Nat} {env : Env} (hk : env.scope.kind = .function) (hy : env.scope.names.lookup y = some .local) (hl : (py.line == pos.line) = true)
    (ha : (scope.names.any fun (n, k) => n == y && (k == .local || k == .cell)) = false) : swapsWith (.ListComp elt gs scope pos) (some (.Name y py)) l env = pure true := by
  have ky : env.kindOf y = some .local := hy
  have hb : env.blockKind = .function := by unfold Env.blockKind; rw [hk]; rfl
  unfold swapsWith
  simp only [hb, ky, ha, Expr.pos, hl]
  rfl
end

/-- over a range: Pv by the turn and the heap (the new list at D within) -/
theorem lc_range {lo : Int} {n : Nat} {g : TG} {tt : TT} {te : TE} {vs : List Nat} {σ : St} {H1 : Hp} {D : Addr} {Qd : Hp → Prop} (Pv : Nat → Hp → Prop) (h0 : Pv 0 (upd H1 D (.lst [])))
    (hs : ∀ i H, i < n → Pv i H → g (.int (lo + i)) (wipe σ vs) H fun σ2 H2 => wipe σ2 vs = wipe σ vs ∧ tt σ2 H2 fun b H3 =>
      if b = true then te σ2 H3 fun y H4 => ∃ acc, H4 D = some (.lst acc) ∧ acc.length < sizeLine ∧ Pv (i + 1) (upd H4 D (.lst (acc ++ [y]))) else Pv (i + 1) H3) (hd : ∀ H, Pv n H → Qd H) :
    ∃ W : Nat → Nat → Hp → Prop, (∃ m, W 0 m (upd H1 D (.lst []))) ∧ ∀ i m H, W i m H →
      ((Itr lo n).stop i H ∧ Qd H) ∨ ((Itr lo n).go i H ∧ ∃ Nx : Hp → Prop, (∀ H', Nx H' → ∃ m', m' < m ∧ W (i + 1) m' H') ∧ ∀ x H', (Itr lo n).yld i H x H' → g x (wipe σ vs) H' fun σ2 H2 => wipe σ2 vs = wipe σ vs ∧ tt σ2 H2 fun b H3 =>
        if b = true then te σ2 H3 fun y H4 => ∃ acc, H4 D = some (.lst acc) ∧ acc.length < sizeLine ∧ Nx (upd H4 D (.lst (acc ++ [y]))) else Nx H3) := by
  refine ⟨fun i m H => m = n - i ∧ i ≤ n ∧ Pv i H, ⟨n, by simp, Nat.zero_le _, h0⟩, ?_⟩
  rintro i m H ⟨rfl, hi, p⟩
  by_cases hlt : i < n
  · refine .inr ⟨hlt, Pv (i + 1), fun H' p' => ⟨n - (i + 1), by omega, rfl, hlt, p'⟩, fun x H' y => ?_⟩
    obtain ⟨e, y⟩ := y
    subst e y
    exact hs i _ hlt p
  · have e : i = n := by omega
    subst e
    exact .inl ⟨Nat.le_refl _, hd H p⟩
/-- over a list that the block leaves as it is -/
theorem lc_list {K : PySem.W.Frag} {a : Addr} {xs : List V} {g : TG} {tt : TT} {te : TE} {vs : List Nat} {σ : St} {H1 : Hp} {D : Addr} {Qd : Hp → Prop} (Pv : Nat → Hp → Prop) (h0 : Pv 0 (upd H1 D (.lst []))) (hl : ∀ i H, i ≤ xs.length → Pv i H → SqL K H a xs)
    (hs : ∀ i x H, xs[i]? = some x → Pv i H → g x (wipe σ vs) H fun σ2 H2 => wipe σ2 vs = wipe σ vs ∧ tt σ2 H2 fun b H3 =>
      if b = true then te σ2 H3 fun y H4 => ∃ acc, H4 D = some (.lst acc) ∧ acc.length < sizeLine ∧ Pv (i + 1) (upd H4 D (.lst (acc ++ [y]))) else Pv (i + 1) H3) (hd : ∀ H, Pv xs.length H → Qd H) :
    ∃ W : Nat → Nat → Hp → Prop, (∃ m, W 0 m (upd H1 D (.lst []))) ∧ ∀ i m H, W i m H →
      ((Itl K a).stop i H ∧ Qd H) ∨ ((Itl K a).go i H ∧ ∃ Nx : Hp → Prop, (∀ H', Nx H' → ∃ m', m' < m ∧ W (i + 1) m' H') ∧ ∀ x H', (Itl K a).yld i H x H' → g x (wipe σ vs) H' fun σ2 H2 => wipe σ2 vs = wipe σ vs ∧ tt σ2 H2 fun b H3 =>
        if b = true then te σ2 H3 fun y H4 => ∃ acc, H4 D = some (.lst acc) ∧ acc.length < sizeLine ∧ Nx (upd H4 D (.lst (acc ++ [y]))) else Nx H3) := by
  refine ⟨fun i m H => m = xs.length - i ∧ i ≤ xs.length ∧ Pv i H, ⟨xs.length, by simp, Nat.zero_le _, h0⟩, ?_⟩
  rintro i m H ⟨rfl, hi, p⟩
  have q := hl i H hi p
  by_cases hlt : i < xs.length
  · refine .inr ⟨⟨xs, xs[i], q, by simp [hlt]⟩, Pv (i + 1), fun H' p' => ⟨xs.length - (i + 1), by omega, rfl, hlt, p'⟩, fun x H' y => ?_⟩
    obtain ⟨e, y⟩ := y
    subst e
    exact hs i x _ (y xs q) p
  · have e : i = xs.length := by omega
    subst e
    exact .inl ⟨⟨xs, q, Nat.le_refl _⟩, hd H p⟩
/-- over a tuple -/
theorem lc_tup {K : PySem.W.Frag} {a : Addr} {xs : List V} {g : TG} {tt : TT} {te : TE} {vs : List Nat} {σ : St} {H1 : Hp} {D : Addr} {Qd : Hp → Prop} (Pv : Nat → Hp → Prop) (h0 : Pv 0 (upd H1 D (.lst []))) (hl : ∀ i H, i ≤ xs.length → Pv i H → SqT K H a xs)
    (hs : ∀ i x H, xs[i]? = some x → Pv i H → g x (wipe σ vs) H fun σ2 H2 => wipe σ2 vs = wipe σ vs ∧ tt σ2 H2 fun b H3 =>
      if b = true then te σ2 H3 fun y H4 => ∃ acc, H4 D = some (.lst acc) ∧ acc.length < sizeLine ∧ Pv (i + 1) (upd H4 D (.lst (acc ++ [y]))) else Pv (i + 1) H3) (hd : ∀ H, Pv xs.length H → Qd H) :
    ∃ W : Nat → Nat → Hp → Prop, (∃ m, W 0 m (upd H1 D (.lst []))) ∧ ∀ i m H, W i m H →
      ((Itt K a).stop i H ∧ Qd H) ∨ ((Itt K a).go i H ∧ ∃ Nx : Hp → Prop, (∀ H', Nx H' → ∃ m', m' < m ∧ W (i + 1) m' H') ∧ ∀ x H', (Itt K a).yld i H x H' → g x (wipe σ vs) H' fun σ2 H2 => wipe σ2 vs = wipe σ vs ∧ tt σ2 H2 fun b H3 =>
        if b = true then te σ2 H3 fun y H4 => ∃ acc, H4 D = some (.lst acc) ∧ acc.length < sizeLine ∧ Nx (upd H4 D (.lst (acc ++ [y]))) else Nx H3) := by
  refine ⟨fun i m H => m = xs.length - i ∧ i ≤ xs.length ∧ Pv i H, ⟨xs.length, by simp, Nat.zero_le _, h0⟩, ?_⟩
  rintro i m H ⟨rfl, hi, p⟩
  have q := hl i H hi p
  by_cases hlt : i < xs.length
  · refine .inr ⟨⟨xs, xs[i], q, by simp [hlt]⟩, Pv (i + 1), fun H' p' => ⟨xs.length - (i + 1), by omega, rfl, hlt, p'⟩, fun x H' y => ?_⟩
    obtain ⟨e, y⟩ := y
    subst e
    exact hs i x _ (y xs q) p
  · have e : i = xs.length := by omega
    subst e
    exact .inl ⟨⟨xs, q, Nat.le_refl _⟩, hd H p⟩
def blkC (N : List Str) (sc scope : Scope) (own : List (Str × Nat)) : Bool :=
  (match scope.kind with | .function => true | _ => false) && (scope.names.all fun y => decide (scope.names.lookup y.1 = some y.2)) && (own.all fun p => decide (N[p.2]? = some p.1)) &&
    (scope.names.all fun y => match y.2 with
      | .free => (match sc.names.lookup y.1 with | some .cell => true | some .free => true | _ => false)
      | .local => decide (y.1 ∈ own.map (·.1)) || decide (y.1 ∉ N)
      | .cell => decide (y.1 ∈ own.map (·.1)) || decide (y.1 ∉ N)
      | _ => true)
theorem blkOk_by {N : List Str} {sc scope : Scope} {own : List (Str × Nat)} (h : blkC N sc scope own = true) : BlkOk N sc scope own := by
  unfold blkC at h
  simp only [Bool.and_eq_true, List.all_eq_true, decide_eq_true_eq] at h
  obtain ⟨⟨⟨h1, h2⟩, h3⟩, h4⟩ := h
  refine ⟨?_, h2, h3, fun y hy e => ?_, fun y hy e => ?_⟩
  · split at h1
    · assumption
    · cases h1
  · have q := h4 y hy
    simp only [e] at q
    split at q <;> first | exact .inl (by assumption) | exact .inr (by assumption) | cases q
  · have q := h4 y hy
    rcases e with e | e <;> (simp only [e, Bool.or_eq_true, decide_eq_true_eq] at q; exact q)
end L2

namespace L2
open PySem PySem.Spec PyProof.Rows

section
variable {prog : Program} {w : World} {A : Around} {R : Result → Shared → Prop} {s : Shared} {elt t0 i0 t1 i1 : Expr} {ifs0 ifs1 : List Expr} {scope : Scope} {pos : Pos} {it acc : Value} {env : Env}
end

section
variable {X : Cx}
end
end L2

namespace L2
open PySem PySem.Spec PyProof.Rows

section
variable {κ : Type} [DecidableEq κ]
def valV (kvs : List (κ × V)) (k : κ) : Option V := (kvs.find? fun kv => decide (kv.1 = k)).map (·.2)
/-- in its place, or at the end -/
def putK (kvs : List (κ × V)) (k : κ) (v : V) : List (κ × V) :=
  if (kvs.any fun kv => decide (kv.1 = k)) = true then kvs.map (fun kv => if kv.1 = k then (kv.1, v) else kv) else kvs ++ [(k, v)]
def dropK (kvs : List (κ × V)) (k : κ) : List (κ × V) := kvs.filter fun kv => decide (kv.1 ≠ k)

theorem valV_pos {p : κ × V} {r : List (κ × V)} {k : κ} (e : p.1 = k) : valV (p :: r) k = some p.2 := by simp [valV, List.find?_cons, e]
theorem valV_neg {p : κ × V} {r : List (κ × V)} {k : κ} (e : ¬ p.1 = k) : valV (p :: r) k = valV r k := by simp [valV, List.find?_cons, e]
theorem valV_any (k : κ) : ∀ kvs : List (κ × V), (kvs.any fun kv => decide (kv.1 = k)) = (valV kvs k).isSome
  | [] => rfl
  | p :: r => by
    rw [List.any_cons]
    by_cases e : p.1 = k
    · simp only [valV_pos e, decide_eq_true e, Bool.true_or, Option.isSome_some]
    · rw [valV_neg e, decide_eq_false e, Bool.false_or]; exact valV_any k r
theorem length_putK (kvs : List (κ × V)) (k : κ) (v : V) : (putK kvs k v).length ≤ kvs.length + 1 := by
  unfold putK
  split
  · rw [List.length_map]; omega
  · rw [List.length_append, List.length_cons, List.length_nil]; omega
theorem RelO.isSome_eq {o : Option V} {u : Option Value} (r : RelO o u) : o.isSome = u.isSome := by
  cases o with
  | none => cases u with
    | none => rfl
    | some _ => exact (show False from r).elim
  | some _ => cases u with
    | none => exact (show False from r).elim
    | some _ => rfl
theorem RelO.getD {o : Option V} {u : Option Value} {d : V} {d' : Value} (r : RelO o u) (rd : RelV d d') : RelV (o.getD d) (u.getD d') := by
  cases o with
  | none => cases u with
    | none => exact rd
    | some _ => exact (show False from r).elim
  | some _ => cases u with
    | none => exact (show False from r).elim
    | some _ => exact r

/-- raw tables of the same keys -/
theorem KV.val {kvs : List (κ × V)} {vs : List (κ × Value)} (r : KV kvs vs) (k : κ) : RelO (valV kvs k) (valueAt vs k) := by
  unfold KV at r
  induction r with
  | nil => exact True.intro
  | @cons p q ps qs h t ih =>
    obtain ⟨h1, h2⟩ := h
    by_cases e : p.1 = k
    · have e' : q.1 = k := h1.symm.trans e
      have b : valueAt (q :: qs) k = some q.2 := by simp [valueAt, List.find?_cons, e']
      rw [valV_pos e, b]; exact h2
    · have e' : ¬ q.1 = k := fun z => e (h1.trans z)
      have b : valueAt (q :: qs) k = valueAt qs k := by simp [valueAt, List.find?_cons, e']
      rw [valV_neg e, b]; exact ih
theorem KV.any {kvs : List (κ × V)} {vs : List (κ × Value)} (r : KV kvs vs) (k : κ) : (kvs.any fun kv => decide (kv.1 = k)) = vs.any fun kv => decide (kv.1 = k) := by
  unfold KV at r
  induction r with
  | nil => rfl
  | cons h t ih => rw [List.any_cons, List.any_cons, ih, h.1]
theorem KV.repl {kvs : List (κ × V)} {vs : List (κ × Value)} (r : KV kvs vs) (k : κ) {y : V} {u : Value} (ry : RelV y u) :
    KV (kvs.map fun kv => if kv.1 = k then (kv.1, y) else kv) (vs.map fun kv => if kv.1 = k then (kv.1, u) else kv) := by
  unfold KV at r ⊢
  induction r with
  | nil => exact .nil
  | @cons p q ps qs h t ih =>
    rw [List.map_cons, List.map_cons]
    refine .cons ?_ ih
    obtain ⟨h1, h2⟩ := h
    by_cases e : p.1 = k
    · rw [if_pos e, if_pos (h1.symm.trans e)]; exact ⟨h1, ry⟩
    · rw [if_neg e, if_neg (fun z => e (h1.trans z))]; exact ⟨h1, h2⟩
theorem KV.put {kvs : List (κ × V)} {vs : List (κ × Value)} (r : KV kvs vs) (k : κ) {y : V} {u : Value} (ry : RelV y u) : KV (putK kvs k y) (stored vs k u) := by
  unfold putK stored
  rw [r.any k]
  by_cases e : (vs.any fun kv => decide (kv.1 = k)) = true
  · rw [if_pos e, if_pos e]; exact r.repl k ry
  · rw [if_neg e, if_neg e]; exact Paired.snoc r ⟨rfl, ry⟩
theorem KV.drop {kvs : List (κ × V)} {vs : List (κ × Value)} (r : KV kvs vs) (k : κ) : KV (dropK kvs k) (without vs k) := by
  unfold KV at r ⊢
  unfold dropK without
  induction r with
  | nil => exact .nil
  | @cons p q ps qs h t ih =>
    obtain ⟨h1, h2⟩ := h
    rw [List.filter_cons, List.filter_cons]
    by_cases e : p.1 = k
    · have a : ¬ decide (p.1 ≠ k) = true := by simp [e]
      have b : ¬ decide (q.1 ≠ k) = true := by simp [h1.symm.trans e]
      rw [if_neg a, if_neg b]; exact ih
    · have e' : ¬ q.1 = k := fun z => e (h1.trans z)
      have a : decide (p.1 ≠ k) = true := by simp [e]
      have b : decide (q.1 ≠ k) = true := by simp [e']
      rw [if_pos a, if_pos b]; exact .cons ⟨h1, h2⟩ ih
theorem KV.keys {kvs : List (κ × V)} {vs : List (κ × Value)} (r : KV kvs vs) : kvs.map (·.1) = vs.map (·.1) := by
  unfold KV at r
  induction r with
  | nil => rfl
  | cons h t ih => rw [List.map_cons, List.map_cons, ih, h.1]
theorem KV.length {kvs : List (κ × V)} {vs : List (κ × Value)} (r : KV kvs vs) : kvs.length = vs.length := Paired.length r
end


theorem kV_is {P : Program} {w : World} {k : Key} {u : Value} (r : RelV (kV k) u) : (mixKind P w).is k u = true := by
  cases k with
  | inl i => obtain ⟨t, e⟩ := (show ∃ t, u = Value.int i t from r); subst e; exact mixKind_int P w i t
  | inr x => obtain ⟨t, e⟩ := (show ∃ t, u = Value.str x t from r); subst e; exact mixKind_str P w x t
theorem items_are {P : Program} {w : World} : ∀ {ks : List Key} {us : List Value}, Vals (ks.map kV) us → ItemsAre (mixKind P w) ks us
  | [], _, r => by rw [List.map_nil] at r; cases r; exact .nil
  | k :: ks, _, r => by
    rw [List.map_cons] at r
    cases r with
    | cons h t => exact .cons (kV_is h) (items_are t)

/-- raw entries of a dict with tuple keys -/
abbrev KT (H : Hp) : List (List Key × V) → List (List Key × Addr × Value) → Prop := Paired fun p q => p.1 = q.1 ∧ H q.2.1 = some (.tup (p.1.map kV)) ∧ RelV p.2 q.2.2
theorem KT.val {H : Hp} {kvs : List (List Key × V)} {xs : List (List Key × Addr × Value)} (r : KT H kvs xs) (k : List Key) : RelO (valV kvs k) ((atKey xs k).map (·.2)) := by
  induction r with
  | nil => exact True.intro
  | @cons p q ps qs h t ih =>
    obtain ⟨h1, _, h2⟩ := h
    by_cases e : p.1 = k
    · have e' : q.1 = k := h1.symm.trans e
      have b : atKey (q :: qs) k = some q.2 := by simp [atKey, List.find?_cons, e']
      rw [valV_pos e, b]; exact h2
    · have e' : ¬ q.1 = k := fun z => e (h1.trans z)
      have b : atKey (q :: qs) k = atKey qs k := by simp [atKey, List.find?_cons, e']
      rw [valV_neg e, b]; exact ih
theorem KT.repl {H : Hp} {kvs : List (List Key × V)} {xs : List (List Key × Addr × Value)} (r : KT H kvs xs) (k : List Key) {y : V} {u : Value} (ry : RelV y u) :
    KT H (kvs.map fun kv => if kv.1 = k then (kv.1, y) else kv) (xs.map (putAt k u)) := by
  induction r with
  | nil => exact .nil
  | @cons p q ps qs h t ih =>
    rw [List.map_cons, List.map_cons]
    refine .cons ?_ ih
    obtain ⟨h1, h2, h3⟩ := h
    unfold putAt
    by_cases e : p.1 = k
    · rw [if_pos e, if_pos (h1.symm.trans e)]; exact ⟨h1, h2, ry⟩
    · rw [if_neg e, if_neg (fun z => e (h1.trans z))]; exact ⟨h1, h2, h3⟩
theorem KT.put {H : Hp} {kvs : List (List Key × V)} {xs : List (List Key × Addr × Value)} (r : KT H kvs xs) (k : List Key) {b : Addr} {y : V} {u : Value} (hb : H b = some (.tup (k.map kV))) (ry : RelV y u) :
    KT H (putK kvs k y) (storedH xs k b u) := by
  have e : (kvs.any fun kv => decide (kv.1 = k)) = (atKey xs k).isSome := by
    rw [valV_any, (r.val k).isSome_eq, Option.isSome_map]
  unfold putK storedH
  rw [e]
  by_cases q : (atKey xs k).isSome = true
  · rw [if_pos q, if_pos q]; exact r.repl k ry
  · rw [if_neg q, if_neg q]; exact Paired.snoc r ⟨rfl, hb, ry⟩
theorem KT.keeps {H H' : Hp} {kvs : List (List Key × V)} {xs : List (List Key × Addr × Value)} (r : KT H kvs xs) (ht : ∀ b ys, H b = some (.tup ys) → H' b = some (.tup ys)) : KT H' kvs xs :=
  Paired.mapP r fun _ _ z => ⟨z.1, ht _ _ z.2.1, z.2.2⟩

section
variable {P : Program} {w : World} {H : Hp} {h : Heap} {a : Addr}
theorem rd_of {u : HO} (ok : HOk P w H h) (e : Rd H a u) : ObjOk P w H h a u := e.ok ok
theorem dk_rd {kvs : List (Key × V)} (ok : HOk P w H h) (e : Rd H a (.dK kvs)) : kvs.length ≤ sizeLine ∧ (a == sysModules) = false ∧ ∃ vs, KV kvs vs ∧ h.DictOf (mixKind P w) a vs :=
  show ObjOk P w H h a (.dK kvs) from rd_of ok e
theorem dk_of {kvs : List (Key × V)} (ok : HOk P w H h) (e : H a = some (.dK kvs)) : kvs.length ≤ sizeLine ∧ (a == sysModules) = false ∧ ∃ vs, KV kvs vs ∧ h.DictOf (mixKind P w) a vs := dk_rd ok (.inl e)
/-- a tracked tuple of ints and texts is a key -/
theorem key_of {ks : List Key} (ok : HOk P w H h) (e : H a = some (.tup (ks.map kV))) : (tupleKind (mixKind P w)).is h ks a := by
  obtain ⟨_, its, r, o, h1, h2, n, h3⟩ := (show ObjOk P w H h a (.tup (ks.map kV)) from ok a _ e)
  exact ⟨o, its.toArray, n, h1, h2, h3, by simpa using items_are r⟩
theorem dt_rd {kvs : List (List Key × V)} (ok : HOk P w H h) (e : Rd H a (.dT kvs)) : kvs.length ≤ sizeLine ∧ (a == sysModules) = false ∧
    ∃ xs, KT H kvs xs ∧ h.DictOfH (tupleKind (mixKind P w)) a xs := by
  obtain ⟨z, y, xs, r, o, es, ep, h1, h2, h3, h4, h5⟩ := (show ObjOk P w H h a (.dT kvs) from rd_of ok e)
  refine ⟨z, y, xs, r, o, es, ep, h1, h2, h3, h4, fun x hx => ?_, h5⟩
  have all : ∀ {l : List (List Key × V)} {m : List (List Key × Addr × Value)}, KT H l m → ∀ x ∈ m, (tupleKind (mixKind P w)).is h x.1 x.2.1 := by
    intro l m q
    induction q with
    | nil => intro x hx; exact nomatch hx
    | @cons p q ps qs hq t ih =>
      intro x hx
      rcases List.mem_cons.mp hx with e | hx
      · subst e
        exact key_of ok (by rw [← hq.1]; exact hq.2.1)
      · exact ih x hx
  exact all r x hx
theorem dt_of {kvs : List (List Key × V)} (ok : HOk P w H h) (e : H a = some (.dT kvs)) : kvs.length ≤ sizeLine ∧ (a == sysModules) = false ∧
    ∃ xs, KT H kvs xs ∧ h.DictOfH (tupleKind (mixKind P w)) a xs := dt_rd ok (.inl e)
end

/-- what the dict at a holds at the key y -/
def DGet (H : Hp) (a : Addr) (y : V) (r : Option V) : Prop :=
  (∃ kvs k, Rd H a (.dK kvs) ∧ y = kV k ∧ r = valV kvs k) ∨ ∃ kvs k b, Rd H a (.dT kvs) ∧ y = .ref b ∧ H b = some (.tup (k.map kV)) ∧ r = valV kvs k
/-- the heap behind a[y] = v -/
def DPut (H : Hp) (a : Addr) (y v : V) (H' : Hp) : Prop :=
  (∃ kvs k, H a = some (.dK kvs) ∧ y = kV k ∧ kvs.length < sizeLine ∧ H' = upd H a (.dK (putK kvs k v))) ∨
  ∃ kvs k b, H a = some (.dT kvs) ∧ y = .ref b ∧ H b = some (.tup (k.map kV)) ∧ kvs.length < sizeLine ∧ H' = upd H a (.dT (putK kvs k v))
theorem DGet.k {H : Hp} {a : Addr} {kvs : List (Key × V)} {k : Key} (e : H a = some (.dK kvs)) : DGet H a (kV k) (valV kvs k) := .inl ⟨kvs, k, .inl e, rfl, rfl⟩
theorem DGet.t {H : Hp} {a b : Addr} {kvs : List (List Key × V)} {k : List Key} (e : H a = some (.dT kvs)) (eb : H b = some (.tup (k.map kV))) : DGet H a (.ref b) (valV kvs k) := .inr ⟨kvs, k, b, .inl e, rfl, eb, rfl⟩
theorem DPut.k {H : Hp} {a : Addr} {kvs : List (Key × V)} {k : Key} {v : V} (e : H a = some (.dK kvs)) (hl : kvs.length < sizeLine) : DPut H a (kV k) v (upd H a (.dK (putK kvs k v))) := .inl ⟨kvs, k, e, rfl, hl, rfl⟩
theorem DPut.t {H : Hp} {a b : Addr} {kvs : List (List Key × V)} {k : List Key} {v : V} (e : H a = some (.dT kvs)) (eb : H b = some (.tup (k.map kV))) (hl : kvs.length < sizeLine) :
    DPut H a (.ref b) v (upd H a (.dT (putK kvs k v))) := .inr ⟨kvs, k, b, e, rfl, eb, hl, rfl⟩


section
variable {X : Cx} {pins : List (Addr × Obj)} {σ : St} {H : Hp} {s : Shared} {a : Addr} {y v : V} {u r : Value} {o : Option V} {A : Around} {E : Value → Shared → Prop}

theorem Inv.big (I : Inv X pins σ H s) : sysModules < s.heap.objs.size := by
  have h : mainGlobals < s.heap.objs.size := (I.mod.glob.keeps I.bk).lt
  exact Nat.lt_trans (by decide) h

/-- d[y], there -/
theorem d_getItem {Q : Value → Shared → Prop} (hu : A.units + 1 < cLine) (I : Inv X pins σ H s) (g : DGet H a y (some v)) (ry : RelV y u) (h : ∀ w' s', Inv X pins σ H s' → RelV v w' → Q w' s') :
    wpAny (model X.prog X.w) A (getItem (.ref a) u) Q E s := by
  rcases g with ⟨kvs, k, e, ey, l⟩ | ⟨kvs, k, b, e, ey, eb, l⟩
  · subst ey
    obtain ⟨z, hd, vs, rel, dd⟩ := dk_rd I.hok e
    obtain ⟨w', hw, rw'⟩ := RelO.some_of (v := v) (o := valueAt vs k) (by rw [l]; exact rel.val k)
    exact wpAny_getItem_of (kV_is ry) dd.mapOf hw (h w' _ (I.tok _) rw')
  · subst ey
    cases (show u = Value.ref b from ry)
    obtain ⟨z, hd, xs, rel, dd⟩ := dt_rd I.hok e
    obtain ⟨w', hw, rw'⟩ := RelO.some_of (v := v) (o := (atKey xs k).map (·.2)) (by rw [l]; exact rel.val k)
    obtain ⟨p, hp, hp2⟩ := Option.map_eq_some_iff.mp hw
    refine wpAny_getItem_heap (tupleKind_room_in1 hu) (key_of I.hok eb) dd hp ?_
    rw [hp2]
    exact h w' _ (I.tok _) rw'
/-- a dict's object is replaced -/
theorem d_write {h' : Heap} {t' : Nat} {ob : HO} (I : Inv X pins σ H s) (mu : Mut (H a)) (hs : Heap.SameBut a s.heap h') (he : ∃ q, h'.get? a = some q) (new : ObjOk X.prog X.w (upd H a ob) h' a ob) :
    Inv X pins σ (upd H a ob) { s with heap := h', toks := t' } :=
  I.write (x := a) (e := a) mu (.inl rfl) (fun b q hb z => (hs.2 b hb).trans z) he new
theorem dk_new {P : Program} {w : World} {H' : Hp} {h' : Heap} {kvs : List (Key × V)} {vs : List (Key × Value)} (z : kvs.length ≤ sizeLine) (hd : (a == sysModules) = false) (rel : KV kvs vs) (dd : h'.DictOf (mixKind P w) a vs) :
    ObjOk P w H' h' a (.dK kvs) := ⟨z, hd, vs, rel, dd⟩
/-- d[y] = v -/
theorem d_setItem {H' : Hp} {Q : Unit → Shared → Prop} (hu : A.units + 1 < cLine) (I : Inv X pins σ H s) (g : DPut H a y v H') (ry : RelV y u) (rv : RelV v r) (h : ∀ s', Inv X pins σ H' s' → Q () s') :
    wpAny (model X.prog X.w) A (setItem (.ref a) u r) Q E s := by
  rcases g with ⟨kvs, k, e, ey, l, eH⟩ | ⟨kvs, k, b, e, ey, eb, l, eH⟩
  · subst ey eH
    obtain ⟨z, hd, vs, rel, dd⟩ := dk_of I.hok e
    have hz : vs.length ≤ sizeLine := by rw [← rel.length]; exact z
    have hl : (putK kvs k v).length ≤ sizeLine := by have := length_putK kvs k v; omega
    refine wpAny_setItem_pairs (hsz := hz) (kV_is ry) dd fun h' dd' hs => h _ ?_
    have he : ∃ q, h'.get? a = some q := let ⟨q, _, _, hq, _⟩ := dd'; ⟨q, hq⟩
    exact d_write I (by rw [e]; exact True.intro) hs he (dk_new hl hd (rel.put k rv) dd')
  · subst ey eH
    cases (show u = Value.ref b from ry)
    obtain ⟨z, hd, xs, rel, dd⟩ := dt_of I.hok e
    have hz : xs.length ≤ sizeLine := by rw [← Paired.length rel]; exact z
    have hl : (putK kvs k v).length ≤ sizeLine := by have := length_putK kvs k v; omega
    refine wpAny_setItem_heap (hsz := hz) (tupleKind_room_in1 hu) (key_of I.hok eb) dd fun h' dd' hs => h _ ?_
    obtain ⟨q, es, ep, hq, h2, h3, h4, _, h5⟩ := dd'
    refine d_write I (by rw [e]; exact True.intro) hs ⟨q, hq⟩ ⟨hl, hd, _, (rel.put k eb rv).keeps fun c ys ec => ?_, q, es, ep, hq, h2, h3, h4, h5⟩
    rw [upd_ne (ne_of ec e (fun z => nomatch z))]
    exact ec
end

section
variable {X : Cx} {pins : List (Addr × Obj)} {σ : St} {H : Hp} {s : Shared} {a : Addr} {kvs : List (Key × V)} {k : Key} {u : Value} {A : Around} {E : Value → Shared → Prop}
/-- len(d) -/
theorem d_len {Q : Value → Shared → Prop} (I : Inv X pins σ H s) (e : Rd H a (.dK kvs)) (h : ∀ t s', Inv X pins σ H s' → Q (.int kvs.length t) s') : wpAny (model X.prog X.w) A (call (.builtin "len") [.ref a]) Q E s := by
  obtain ⟨z, hd, vs, rel, dd⟩ := dk_rd I.hok e
  refine call_len_dict hd dd (by rw [← rel.length]; rw [sizeLine_eq] at z; omega) ?_
  rw [← rel.length]
  exact h _ _ (I.tok _)
end


/-- the element of a subscription, not a slice -/
def NoSl (i : Expr) : Prop := ∀ ov iv, subscripted i false ov iv = operate [ov, iv] (getItem ov iv)
theorem subD_of {prog : Program} {w : World} {A : Around} {E : Value → Shared → Prop} {s : Shared} {env : Env} {value slice : Expr} {pos : Pos} {T id : String} {Q : Value → Shared → Prop}
    (hl : typeLookup (.type T) "__getitem__" = pure (some (.builtin id))) (hs : NoSl slice)
    (h : wpAny (model prog w) A (eval value env) (fun o s₁ => wpAny (model prog w) A (eval slice env) (fun i s₂ => s₂.TypeIs o T ∧ wpAny (model prog w) A (getItem o i) Q E s₂) E s₁) E s) :
    wpAny (model prog w) A (eval (.Subscript value slice pos) env) Q E s := by
  refine Subscript_ (wpAny_mono h (fun o s₁ h₁ => wpAny_mono h₁ (fun i s₂ h₂ => ?_) fun _ _ x => x) fun _ _ x => x)
  obtain ⟨hT, h₂⟩ := h₂
  unfold subscriptTail
  refine wpAny_bind ?_
  rw [getitemInPython_of_ne hT.not_modules]
  refine wpAny_bind (wpAny_specialOf hT hl ?_)
  have fin : wpAny (model prog w) A (subscripted slice false o i) (fun r s₃ => wpAny (model prog w) A (letTemporaryGo value o r >>= fun _ => pure r) Q E s₃) E s₂ := by
    rw [hs o i]
    exact wpAny_operating (wpAny_mono h₂ (fun r s₃ h₃ => wpAny_bind (wpAny_letTemporaryGo (wpAny_pure h₃))) fun _ _ x => x)
  first
    | exact wpAny_pure (wpAny_bind fin)
    | exact wpAny_bind (wpAny_pure (wpAny_bind fin))
    | exact wpAny_bind fin

theorem dict_typeIs {X : Cx} {pins : List (Addr × Obj)} {σ : St} {H : Hp} {s : Shared} {a : Addr} {y : V} {o : Option V} (I : Inv X pins σ H s) (g : DGet H a y o) : s.TypeIs (.ref a) "dict" := by
  rcases g with ⟨kvs, k, e, _, _⟩ | ⟨kvs, k, b, e, _, _, _⟩
  · obtain ⟨_, _, vs, _, dd⟩ := dk_rd I.hok e
    exact dd.typeIs
  · obtain ⟨_, _, xs, _, dd⟩ := dt_rd I.hok e
    exact dd.typeIs
/-- d[y] -/
def tDGet (td ty : TE) : TE := fun σ H Q => td σ H fun x H1 => ty σ H1 fun y H2 => ∃ a v, x = .ref a ∧ DGet H2 a y (some v) ∧ Q v H2
/-- d[y] = v -/
def sDPut (td ty tv : TE) : TS := fun D σ H => tv σ H fun v H1 => td σ H1 fun x H2 => ty σ H2 fun y H3 => ∃ a H4, x = .ref a ∧ DPut H3 a y v H4 ∧ D.nx σ H4
section
variable {X : Cx} {o i e value : Expr} {pos pos' tpos : Pos} {td ty tv : TE}
theorem pe_dget (hu : X.A.units + 1 < cLine) (ho : PE X o td) (hi : PE X i ty) (hs : NoSl i) : PE X (.Subscript o i pos) (tDGet td ty) := by
  intro pins s σ H Q I h
  refine subD_of PySem.F.slot_dict_getitem.lookup hs (thn (ho pins s σ H _ I h) fun u s1 ⟨x, H1, I1, rx, q1⟩ => thn (hi pins s1 σ H1 _ I1 q1) fun iv s2 ⟨y, H2, I2, ry, a, v, ex, g, q2⟩ => ?_)
  subst ex
  obtain rfl : u = Value.ref a := rx
  exact ⟨dict_typeIs I2 g, d_getItem hu I2 g ry fun w' s3 I3 rw' => ⟨v, H2, I3, rw', q2⟩⟩
theorem ps_dput (hu : X.A.units + 1 < cLine) (ho : PE X o td) (hi : PE X i ty) (hv : PE X value tv) (hs : swapsWith value (some (.Subscript o i pos')) pos.line X.env = pure false) :
    PS X (.Assign [.Subscript o i pos'] value pos) (sDPut td ty tv) := by
  intro pins s σ H D I h
  refine wpAny_Assign_Subscript (thn (hv pins s σ H _ I h) fun r s1 ⟨v, H1, I1, rv, q1⟩ => thn (ho pins s1 σ H1 _ I1 q1) fun u s2 ⟨x, H2, I2, rx, q2⟩ => thn (hi pins s2 σ H2 _ I2 q2) fun iv s3 ⟨y, H3, I3, ry, a, H4, ex, g, q3⟩ => ?_) hs
  subst ex
  obtain rfl : u = Value.ref a := rx
  exact d_setItem hu I3 g ry rv fun s4 I4 => ⟨σ, H4, I4, q3⟩
end


theorem dk_empty {P : Program} {w : World} {H : Hp} (h : Heap) (hb : sysModules < h.objs.size) : ObjOk P w H (h.push { cls := .type "dict", data := .dict #[] }) h.objs.size (.dK []) :=
  ⟨Nat.zero_le _, beq_eq_false_iff_ne.mpr (Ne.symm (Nat.ne_of_lt hb)), [], .nil, Heap.DictOf.new h⟩
/-- {}, to be a dict of the kind that is wanted -/
def tDNewK : TE := fun _ H Q => ∀ p, H p = none → Q (.ref p) (upd H p (.dK []))
section
variable {X : Cx} {pos : Pos}
theorem pe_dnewK : PE X (.Dict [] [] pos) tDNewK := fun pins s σ H Q I h =>
  wpAny_Dict_empty ⟨.ref s.heap.objs.size, _, I.laid (a := s.heap.objs.size) (o := .dK []) (t' := s.toks) (fun _ _ q => Heap.get?_push_of_some _ q) (Nat.le_refl _) (dk_empty s.heap I.big), rfl, h _ (I.hok.fresh (Nat.le_refl _))⟩
end

/-- the pairs of a display, from the left -/
def tPairs : List (TE × TE) → St → Hp → (List (V × V) → Hp → Prop) → Prop
  | [], _, H, Q => Q [] H
  | (tk, tv) :: r, σ, H, Q => tk σ H fun x H1 => tv σ H1 fun y H2 => tPairs r σ H2 fun ps H3 => Q ((x, y) :: ps) H3
abbrev VV : List (V × V) → List (Value × Value) → Prop := Paired fun p q => RelV p.1 q.1 ∧ RelV p.2 q.2
def PPs (X : Cx) (pos : Pos) (keys : List (Option Expr)) (values : List Expr) (trs : List (TE × TE)) : Prop :=
  ∀ (pins : List (Addr × Obj)) (s : Shared) (σ : St) (H : Hp) (Q : List (V × V) → Hp → Prop), Inv X pins σ H s → tPairs trs σ H Q →
    wpAny (model X.prog X.w) X.A (evalPairs (pairTrees keys values X.env pos)) (fun vs s' => ∃ ps H', Inv X pins σ H' s' ∧ VV ps vs ∧ Q ps H') X.xe s
theorem pps_nil {X : Cx} {pos : Pos} : PPs X pos [] [] [] := fun pins s σ H Q I h => pairTrees_nil_walk ⟨[], H, I, .nil, h⟩
theorem pps_cons {X : Cx} {pos : Pos} {k v : Expr} {ks : List (Option Expr)} {vs : List Expr} {tk tv : TE} {trs : List (TE × TE)} (hk : PE X k tk) (hv : PE X v tv) (hr : PPs X pos ks vs trs) :
    PPs X pos (some k :: ks) (v :: vs) ((tk, tv) :: trs) := fun pins s σ H Q I h =>
  pairTrees_cons_walk (thn (hk pins s σ H _ I h) fun u s1 ⟨x, H1, I1, rx, q1⟩ => thn (hv pins s1 σ H1 _ I1 q1) fun w2 s2 ⟨y, H2, I2, ry, q2⟩ =>
    thn (hr pins s2 σ H2 _ I2 q2) fun ws s3 ⟨ps, H3, I3, rel, q3⟩ => ⟨(x, y) :: ps, H3, I3, .cons ⟨rx, ry⟩ rel, q3⟩)

def mergeK (kvs more : List (Key × V)) : List (Key × V) := more.foldl (fun acc kv => putK acc kv.1 kv.2) kvs
theorem KV.merge : ∀ {more : List (Key × V)} {rs : List (Key × Value)} {kvs : List (Key × V)} {vs : List (Key × Value)}, KV more rs → KV kvs vs → KV (mergeK kvs more) (merged vs rs) := by
  intro more rs kvs vs r
  unfold KV at r
  induction r generalizing kvs vs with
  | nil => intro q; exact q
  | @cons p q ps qs h t ih =>
    intro r0
    have e : KV (putK kvs p.1 p.2) (stored vs q.1 q.2) := by
      have := r0.put p.1 h.2
      rw [← h.1]; exact this
    exact ih e
theorem length_mergeK : ∀ (more kvs : List (Key × V)), (mergeK kvs more).length ≤ kvs.length + more.length
  | [], kvs => by show kvs.length ≤ kvs.length + 0; omega
  | p :: r, kvs => by
    have h1 := length_mergeK r (putK kvs p.1 p.2)
    have h2 := length_putK kvs p.1 p.2
    show (mergeK (putK kvs p.1 p.2) r).length ≤ _
    rw [List.length_cons]; omega
theorem carries_of {P : Program} {w : World} : ∀ {kvs : List (Key × V)} {ws : List (Value × Value)}, VV (kvs.map fun kv => (kV kv.1, kv.2)) ws → ∃ rs, Carries (mixKind P w) ws rs ∧ KV kvs rs
  | [], _, r => by rw [List.map_nil] at r; cases r; exact ⟨[], True.intro, .nil⟩
  | p :: kvs, _, r => by
    rw [List.map_cons] at r
    cases r with
    | @cons a b as bs h t =>
      obtain ⟨rs, c, q⟩ := carries_of (P := P) (w := w) t
      obtain ⟨b1, b2⟩ := b
      exact ⟨(p.1, b2) :: rs, ⟨kV_is h.1, rfl, c⟩, .cons ⟨rfl, h.2⟩ q⟩
/-- {k: v, ..} with keys ints and texts; the new dict stands empty while the pairs are made -/
def tDisp (trs : List (TE × TE)) : TE := fun σ H Q => ∀ p, H p = none → tPairs trs σ (upd H p (.dK [])) fun ps H2 => H2 p = some (.dK []) ∧ ∃ kvs : List (Key × V), ps = kvs.map (fun kv => (kV kv.1, kv.2)) ∧ kvs.length ≤ 15 ∧ Q (.ref p) (upd H2 p (.dK (mergeK [] kvs)))
theorem pe_disp {X : Cx} {pos : Pos} {keys : List (Option Expr)} {values : List Expr} {trs : List (TE × TE)} (h : PPs X pos keys values trs) (hall : keys.all (·.isSome) = true) (hl : keys.length = values.length) (h0 : keys ≠ [])
    (h15 : keys.length ≤ 15) : PE X (.Dict keys values pos) (tDisp trs) := by
  intro pins s σ H Q I q
  have hn := I.hok.fresh (Nat.le_refl s.heap.objs.size)
  have I1 := I.laid (a := s.heap.objs.size) (o := .dK []) (h' := s.heap.push { cls := .type "dict", data := .dict #[] }) (t' := s.toks) (fun _ _ q => Heap.get?_push_of_some _ q) (Nat.le_refl _) (dk_empty s.heap I.big)
  refine wpAny_Dict_walk (knd := mixKind X.prog X.w) hall hl h0 h15 (thn (h pins _ σ _ _ I1 (q _ hn)) fun ws s2 ⟨ps, H2, I2, rel, e, kvs, ep, lk, q2⟩ => ?_)
  subst ep
  obtain ⟨rs, c, rk⟩ := carries_of (P := X.prog) (w := X.w) rel
  obtain ⟨z, hd, vs0, r0, dd⟩ := dk_of I2.hok e
  cases r0
  refine ⟨rs, c, dd, fun h' dd' hs => ⟨.ref s.heap.objs.size, _, ?_, rfl, q2⟩⟩
  have hz : (mergeK [] kvs).length ≤ sizeLine := by
    have h1 := length_mergeK kvs []
    rw [List.length_nil] at h1
    rw [sizeLine_eq]; omega
  have he : ∃ q, h'.get? s.heap.objs.size = some q := let ⟨q, _, _, hq, _⟩ := dd'; ⟨q, hq⟩
  exact d_write I2 (by rw [e]; exact True.intro) hs he (dk_new hz hd (rk.merge .nil) dd')


/-- a method call o.m(e) of a built-in, with one argument: what must be seen of the text -/
structure M1 (X : Cx) (o : Expr) (m : Str) (apos : Pos) (e : Expr) (cpos : Pos) : Prop where
  base : attributeBase o m X.env (eval o X.env) = eval o X.env
  few : ((backTo cpos (starEach [e] X.env)).all (fun x => !x.1) && (backToKw cpos (keywordEach [] X.env)).all (fun x => x.1.isSome)
    && decide (([e] : List Expr).length + ([] : List Keyword).length + (if ([] : List Keyword).isEmpty then 0 else 1) < 30)) = true
  line : (apos.endLine == cpos.line) = true
  trees : backTo cpos (starEach [e] X.env) = [(false, eval e X.env)]
structure M2 (X : Cx) (o : Expr) (m : Str) (apos : Pos) (e f : Expr) (cpos : Pos) : Prop where
  base : attributeBase o m X.env (eval o X.env) = eval o X.env
  few : ((backTo cpos (starEach [e, f] X.env)).all (fun x => !x.1) && (backToKw cpos (keywordEach [] X.env)).all (fun x => x.1.isSome)
    && decide (([e, f] : List Expr).length + ([] : List Keyword).length + (if ([] : List Keyword).isEmpty then 0 else 1) < 30)) = true
  line : (apos.endLine == cpos.line) = true
  trees : backTo cpos (starEach [e, f] X.env) = [(false, eval e X.env), (false, eval f X.env)]

/-- a is a dict, whatever its keys -/
def IsD (H : Hp) (a : Addr) : Prop := (∃ kvs, Rd H a (.dK kvs)) ∨ ∃ kvs, Rd H a (.dT kvs)
theorem isD_at {X : Cx} {pins : List (Addr × Obj)} {σ : St} {H : Hp} {s : Shared} {a : Addr} (I : Inv X pins σ H s) (d : IsD H a) :
    s.TypeIs (.ref a) "dict" ∧ (∀ b, Value.ref a = .ref b → ∃ ob, s.heap.get? b = some ob ∧ ob.dict = none) ∧ (a == sysModules) = false := by
  rcases d with ⟨kvs, e⟩ | ⟨kvs, e⟩
  · obtain ⟨_, hd, vs, _, dd⟩ := dk_rd I.hok e
    refine ⟨dd.typeIs, fun b q => ?_, hd⟩
    cases q
    obtain ⟨ob, _, _, h1, h2, _⟩ := dd
    exact ⟨ob, h1, h2.2.1⟩
  · obtain ⟨_, hd, xs, _, dd⟩ := dt_rd I.hok e
    refine ⟨dd.typeIs, fun b q => ?_, hd⟩
    cases q
    obtain ⟨ob, _, _, h1, h2, _⟩ := dd
    exact ⟨ob, h1, h2.2.1⟩

section
variable {X : Cx} {pins : List (Addr × Obj)} {σ : St} {H : Hp} {s : Shared} {a : Addr} {y d : V} {u r : Value} {o : Option V} {A : Around} {E : Value → Shared → Prop}
/-- d.get(y) -/
theorem d_get1 {Q : Value → Shared → Prop} (hu : A.units + 1 < cLine) (I : Inv X pins σ H s) (g : DGet H a y o) (ry : RelV y u) (h : ∀ w' s', Inv X pins σ H s' → RelV (o.getD .non) w' → Q w' s') :
    wpAny (model X.prog X.w) A (call (.builtin "dict.get") [.ref a, u]) Q E s := by
  rcases g with ⟨kvs, k, e, ey, l⟩ | ⟨kvs, k, b, e, ey, eb, l⟩
  · subst ey
    obtain ⟨z, hd, vs, rel, dd⟩ := dk_rd I.hok e
    refine call_meetsIn PySem.F.slot_dict_get dd.typeIs PySem.F.entry_dict_get (PySem.F.args_dict_get_2 _ _) (meets_dict_get (mixKind X.prog X.w) a (kV_is ry) hd) ⟨_, dd.mapOf, h _ _ (I.tok _) ?_⟩
    rw [l]
    exact (rel.val k).getD rfl
  · subst ey
    cases (show u = Value.ref b from ry)
    obtain ⟨z, hd, xs, rel, dd⟩ := dt_rd I.hok e
    refine call_meetsIn PySem.F.slot_dict_get dd.typeIs PySem.F.entry_dict_get (PySem.F.args_dict_get_2 _ _) (meetsH_dict_get (tupleKind (mixKind X.prog X.w)) a b hd) ⟨tupleKind_room_in1 hu, k, xs, key_of I.hok eb, dd, h _ _ (I.tok _) ?_⟩
    rw [l]
    exact (rel.val k).getD rfl
end

def tDGet1 (td ty : TE) : TE := fun σ H Q => td σ H fun x H1 => ∃ a, x = .ref a ∧ IsD H1 a ∧ ty σ H1 fun y H2 => ∃ o, DGet H2 a y o ∧ Q (o.getD .non) H2
section
variable {X : Cx} {o e f : Expr} {apos cpos : Pos} {td ty tx : TE}
theorem pe_dget1 (hu : X.A.units + 1 < cLine) (ho : PE X o td) (he : PE X e ty) (m : M1 X o "get" apos e cpos) : PE X (.Call (.Attribute o "get" apos) [e] [] cpos) (tDGet1 td ty) := by
  intro pins s σ H Q I h
  refine wpAny_Call_method m.base m.few m.line PySem.F.plainAttrs_dict PySem.F.slot_dict_get PySem.F.type_dict_get (thn (ho pins s σ H _ I h) fun u s1 ⟨x, H1, I1, rx, a, ex, d, q1⟩ => ?_)
  subst ex
  obtain rfl : u = Value.ref a := rx
  obtain ⟨t1, t2, _⟩ := isD_at I1 d
  refine ⟨t1, t2, ?_⟩
  rw [m.trees]
  refine Calls.callWith_builtin rfl (Calls.evalArgs_plain (Calls.spliced_cons (thn (he pins s1 σ H1 _ I1 q1) fun iv s2 ⟨y, H2, I2, ry, ov, g, q2⟩ => Calls.spliced_nil ?_)))
  exact d_get1 hu I2 g ry fun w' s3 I3 rw' => ⟨_, H2, I3, rw', q2⟩
end

section
variable {X : Cx} {pins : List (Addr × Obj)} {σ : St} {H : Hp} {s : Shared} {a : Addr} {kvs : List (Key × V)} {A : Around} {E : Value → Shared → Prop}
end


section
variable {X : Cx} {pins : List (Addr × Obj)} {σ : St} {H : Hp} {s : Shared} {a : Addr} {y : V} {u : Value} {A : Around} {E : Value → Shared → Prop}
end
end L2

namespace L2
open PySem PySem.Spec PyProof.Rows

section
variable {prog : Program} {w : World} {A : Around} {E : Value → Shared → Prop}
end

section
variable {X : Cx}
end
end L2

namespace L2
open PySem PySem.Spec PyProof.Rows

section
variable {X : Cx} {pins : List (Addr × Obj)} {σ : St} {H : Hp} {s : Shared} {h' : Heap}
/-- several records of ours have turned -/
theorem Inv.turnedL {t' : Nat} {ch : List Addr} (I : Inv X pins σ H s) (k : ∀ b o, b ∉ ch → s.heap.get? b = some o → h'.get? b = some o) (hf : ∀ b ∈ ch, FpOk X pins H b) : Inv X pins σ H { s with heap := h', toks := t' } := by
  have nit : ∀ b u, H b = some u → b ∉ ch := fun b u e z => by
    have q := (hf b z).1
    rw [q] at e; cases e
  refine I.step (g' := s.gens) (d' := s.drawn) (ch := ch) (fun b hb => ⟨(hf b hb).2.2.2.1, (hf b hb).2.1, (hf b hb).2.2.2.2.1, (hf b hb).2.2.2.2.2⟩) (fun b o _ _ hc e _ => k b o hc e) (fun b o _ _ hc e _ => ⟨o.slots, k b o hc e⟩)
    (fun _ _ _ _ n => n) (fun b o hc e => ⟨o, k b o hc e⟩) (fun _ _ e => e) (fun _ _ _ e => e) (fun b ps e => ⟨#[], by rw [e]; simp⟩) (fun m hm => ?_) (fun b u e => ?_) I.bare
  · obtain ⟨o, es, ep, ho, r⟩ := hm
    exact ⟨o, es, ep, k _ o (fun z => (hf _ z).2.1 rfl) ho, r⟩
  · refine (I.hok b u e).stay (fun c v hc q => k c v ?_ q) (fun _ q => q) fun _ _ q => q
    rcases hc with z | z
    · rw [z]; exact nit b u e
    · exact nit c _ z
/-- .. and one new object is laid -/
theorem Inv.turnedNew {t' : Nat} {ch : List Addr} {T : Addr} {ob : HO} (I : Inv X pins σ H s) (k : ∀ b o, b ∉ ch → s.heap.get? b = some o → h'.get? b = some o) (hf : ∀ b ∈ ch, FpOk X pins H b) (hT : s.heap.objs.size ≤ T)
    (new : ObjOk X.prog X.w (upd H T ob) h' T ob) : Inv X pins σ (upd H T ob) { s with heap := h', toks := t' } := by
  have hn : H T = none := I.hok.fresh hT
  have nit : ∀ b u, H b = some u → b ∉ ch := fun b u e z => by
    have q := (hf b z).1
    rw [q] at e; cases e
  refine I.step (g' := s.gens) (d' := s.drawn) (ch := ch) (fun b hb => ⟨(hf b hb).2.2.2.1, (hf b hb).2.1, (hf b hb).2.2.2.2.1, (hf b hb).2.2.2.2.2⟩) (fun b o _ _ hc e _ => k b o hc e) (fun b o _ _ hc e _ => ⟨o.slots, k b o hc e⟩)
    (fun b o _ e n => ?_) (fun b o hc e => ⟨o, k b o hc e⟩) (fun b xs e => ?_) (fun b o u e => ?_) (fun b ps e => ⟨#[], ?_⟩) (fun m hm => ?_) (fun b u e => ?_) I.bare
  · rw [upd_ne (Nat.ne_of_lt (Nat.lt_of_lt_of_le (Heap.lt_size e) hT))]; exact n
  · rw [upd_ne (ne_of_none e hn)]; exact e
  · rw [upd_ne (ne_of_none e hn)]; exact e
  · rw [upd_ne (ne_of_none e hn), e]; simp
  · obtain ⟨o, es, ep, ho, r⟩ := hm
    exact ⟨o, es, ep, k _ o (fun z => (hf _ z).2.1 rfl) ho, r⟩
  · by_cases hb : b = T
    · subst hb
      rw [upd_same] at e
      cases e
      exact new
    · rw [upd_ne hb] at e
      refine (I.hok b u e).stay (fun c v hc q => k c v ?_ q) (fun c q => by rw [upd_ne (ne_of_none q hn)]; exact q) fun c xs q => by rw [upd_ne (ne_of_none q hn)]; exact q
      rcases hc with z | z
      · rw [z]; exact nit b u e
      · exact nit c _ z

theorem Inv.lock {d : Addr} {u : HO} (I : Inv X pins σ H s) (h : H d = some u) (mu : Mut (some u)) : ∃ od, Inv X pins σ (upd H d (.frz od u)) s := by
  have x := I.hok d u h
  have ex : ∃ od, s.heap.get? d = some od := by
    cases u with
    | lst xs => obtain ⟨_, _, _, _, e⟩ := x; exact ⟨_, e⟩
    | dK kvs => obtain ⟨_, _, _, _, o, _, _, e, _⟩ := x; exact ⟨o, e⟩
    | dT kvs => obtain ⟨_, _, _, _, o, _, _, e, _⟩ := x; exact ⟨o, e⟩
    | set S n => obtain ⟨o, _, _, _, e, _⟩ := x; exact ⟨o, e⟩
    | ins C dx fs => obtain ⟨_, _, _, e, _⟩ := x; exact ⟨_, e⟩
    | ext φ => obtain ⟨_, ⟨_, e⟩, _⟩ := x; exact ⟨_, e⟩
    | _ => exact False.elim mu
  obtain ⟨od, e⟩ := ex
  have new : ObjOk X.prog X.w (upd H d (.frz od u)) s.heap d (.frz od u) := by
    refine ⟨e, x.stay (fun b v _ q => q) (fun b q => ?_) fun b xs q => ?_⟩
    · rw [upd_ne (fun z => by rw [z, h] at q; cases q; exact mu)]; exact q
    · rw [upd_ne (fun z => by rw [z, h] at q; cases q; exact mu)]; exact q
  exact ⟨od, I.write (x := d) (e := d) (t' := s.toks) (h' := s.heap) (by rw [h]; exact mu) (.inl rfl) (fun b v _ q => q) ⟨od, e⟩ new⟩
theorem Inv.nofrz {d : Addr} {u : HO} (I : Inv X pins σ H s) (h : H d = some u) (mu : Mut (some u)) : ∀ o' u', X.H_0 d ≠ some (.frz o' u') := fun o' u' e => by
  have q := I.base.frzs d o' u' e
  rw [h] at q
  cases q
  exact mu
theorem Inv.unlock {d : Addr} {od : Obj} {u : HO} (I : Inv X pins σ H s) (h : H d = some (.frz od u)) (hn : ∀ o' u', X.H_0 d ≠ some (.frz o' u')) : Inv X pins σ (upd H d u) s := by
  have neH : ∀ b o, H b = some o → (∀ o' u', o ≠ .frz o' u') → b ≠ d := fun b o e hne z => by
    rw [z, h] at e
    cases e
    exact hne _ _ rfl
  have neN : ∀ b, H b = none → b ≠ d := fun b e z => by rw [z, h] at e; cases e
  refine ⟨I.ok, I.os, I.bare, ⟨I.base.keep, I.base.slot, fun b o e n hx => ?_, I.base.there, fun b xs e => ?_, fun b o x e => ?_, fun b ps e => ?_⟩, I.loc, I.cell, ?_, fun x c e => ?_, fun p hp => ?_, fun b o e => ?_, I.len⟩
  · rw [upd_ne (neN b (I.base.free b o e n hx))]; exact I.base.free b o e n hx
  · have q := I.base.tups b xs e
    rw [upd_ne (neH b _ q (fun _ _ z => nomatch z))]; exact q
  · have q := I.base.frzs b o x e
    rw [upd_ne (fun z => by rw [z] at e; exact hn _ _ e)]; exact q
  · obtain ⟨m, q⟩ := I.base.tbls b ps e
    exact ⟨m, by rw [upd_ne (neH b _ q (fun _ _ z => nomatch z))]; exact q⟩
  · rw [upd_ne (neN _ I.free)]; exact I.free
  · rw [upd_ne (neN c (I.freeC x c e))]; exact I.freeC x c e
  · obtain ⟨e, n, r⟩ := I.pin p hp
    exact ⟨e, by rw [upd_ne (neN _ n)]; exact n, r⟩
  · by_cases hb : b = d
    · rw [hb, upd_same] at e
      cases e
      rw [hb]
      obtain ⟨_, x⟩ := I.hok d _ h
      exact x.stay (fun c v _ q => q) (fun c q => by rw [upd_ne (neH c _ q (fun _ _ z => nomatch z))]; exact q) fun c xs q => by rw [upd_ne (neH c _ q (fun _ _ z => nomatch z))]; exact q
    · rw [upd_ne hb] at e
      exact (I.hok b o e).stay (fun c v _ q => q) (fun c q => by rw [upd_ne (neH c _ q (fun _ _ z => nomatch z))]; exact q) fun c xs q => by rw [upd_ne (neH c _ q (fun _ _ z => nomatch z))]; exact q
end
def tLockE (t : TE) : TE := fun σ H Q => ∃ d u, H d = some u ∧ Mut (some u) ∧ ∀ od, t σ (upd H d (.frz od u)) fun v H' => H' d = some (.frz od u) ∧ Q v (upd H' d u)
section
variable {X : Cx}
theorem pe_lock {e : Expr} {t : TE} (h : PE X e t) : PE X e (tLockE t) := by
  intro pins s σ H Q I hw
  obtain ⟨d, u, hd, mu, hw⟩ := hw
  obtain ⟨od, I1⟩ := I.lock hd mu
  refine thn (h pins s σ _ _ I1 (hw od)) fun v s1 ⟨x, H1, I2, r, e2, q⟩ => ?_
  exact ⟨x, _, I2.unlock e2 (I.nofrz hd mu), r, q⟩

theorem pi_one {tg : Expr} {pins : List (Addr × Obj)} {σ : St} {H : Hp} {s : Shared} {R : It → Hp → Prop} {J : It} {tn : Nat → Heap → Prop} {tk : Nat} (I : Inv X pins σ H s) (o : Obj)
    (T : Turn X.prog X.w X.K tg J [s.heap.objs.size] s.heap.objs.size tn) (st : tn 0 (s.heap.push o)) (q : R J H) : PIE X pins σ tg R (.ref s.heap.objs.size) { s with heap := s.heap.push o, toks := tk } := by
  refine ⟨s.heap.objs.size, [s.heap.objs.size], tn, J, H, rfl, I.kept fun b ob e => Heap.get?_push_of_some _ e, T, st, fun b hb => ?_, q⟩
  have e : b = s.heap.objs.size := by simpa using hb
  subst e
  exact I.fpOk (Nat.le_refl _) (I.hok.fresh (Nat.le_refl _))
end

/-- lo, lo + c, .. (n of them) -/
def Itc (lo c : Int) (n : Nat) : It := ⟨fun i _ => i < n, fun i H x H' => H' = H ∧ x = .int (lo + (i : Nat) * c), fun i _ => n ≤ i⟩
theorem turn_rangeC {P : Program} {w : World} {K : PySem.W.Frag} {tg : Expr} (it : Addr) (lo c : Int) (n : Nat) : Turn P w K tg (Itc lo c n) [it] it (fun i h => IsRangeIter h it (lo + (i : Nat) * c) ((n : Int) - (i : Nat)) c) where
  mem := by simp
  obj := fun i h st b hb => by
    have e : b = it := by simpa using hb
    subst e
    exact ⟨_, st, fun v z => nomatch z⟩
  keep := fun i h h' st k => k it (by simp) _ st
  item := by
    intro X hP hw hK hc i pins s σ H E I hf st hg
    subst hP hw hK
    obtain ⟨f0, f1, f2, f3, f4, f5⟩ := hf it (by simp)
    have W := Walks.range (prog := X.prog) (w := X.w) (I.ok.hd hc) it lo c n
    refine W.item i s _ _ hg st fun v h' tk hv st' kk => ?_
    obtain ⟨t, rfl⟩ := hv
    have I1 : Inv X pins σ H { s with heap := h', toks := tk } := I.turned (fun b o hb e => kk b o (by simpa using hb) e) f0 f1 f3 f4 f5
    exact ⟨_, rfl, go_of (s := { s with heap := h', toks := tk }) (n := "range_iterator") st' rfl rfl (by decide) ⟨.int (lo + (i : Nat) * c), H, I1, ⟨t, rfl⟩, ⟨rfl, rfl⟩, st', fun b hb => (hf b hb).1⟩⟩
  done := by
    intro X hP hw hK hc i pins s σ H E I hf st hg
    subst hP hw hK
    obtain ⟨f0, f1, f2, f3, f4, f5⟩ := hf it (by simp)
    exact wpAny_pyNext_range_end (I.ok.hd hc) st (by have : n ≤ i := hg; omega) fun h' eb => ⟨rfl, I.turned (t' := s.toks) (fun b o hb e => eb b o hb e) f0 f1 f3 f4 f5⟩
  self := fun A i s Q E st h => wpAny_pyIter_rangeiter st h
/-- range(i, j, c): small bounds, n items -/
def RgC (i j c : Int) (n : Nat) : Prop := c ≠ 0 ∧ c.natAbs < 1073741824 ∧ Builtin.Range.small i j c = true ∧ Builtin.Range.rangeSize i j c = n
theorem RgC.neg {i j : Int} (ha : -(2 ^ 62) ≤ i) (ha' : i < 2 ^ 62) (hb : -(2 ^ 62) ≤ j) (hb' : j < 2 ^ 62) : RgC i j (-1) (i - j).toNat :=
  ⟨by decide, by decide, PySem.W.small_down ha ha' hb hb', PySem.W.rangeSize_downNat i j⟩
def iRng3 (ta : TA) : TI := fun σ H R => ta σ H fun vs H1 => ∃ (i j c : Int) (n : Nat), vs = [.int i, .int j, .int c] ∧ RgC i j c n ∧ R (Itc i c n) H1
section
variable {X : Cx} {tg : Expr}
theorem pi_range3 {a b c : Expr} {ta : TA} {p pos : Pos} (hg : Gl X "range") (hm : X.mg "range" = none) (ha : PA X [a, b, c] ta)
    (hs : starEach [a, b, c] X.env = (false, eval a X.env) :: starEach [b, c] X.env := by rfl) (hpl : (backTo pos (starEach [b, c] X.env)).any (·.1) = false := by rfl) :
    PI X tg (.Call (.Name "range" p) [a, b, c] [] pos) (iRng3 ta) := by
  intro pins s σ H R I h
  refine Call_ (ld_blt I hg hm boot_range (PyProof.Rows.callWith_type1 (thn (ha pos pins s σ H _ I h) fun us s1 ⟨vs, H1, I1, r1, q1⟩ => ?_) hs hpl))
  obtain ⟨i, j, k, n, e, ⟨c0, c1, c2, c3⟩, q⟩ := q1
  subst e
  cases r1 with
  | cons r rr =>
    cases rr with
    | cons r' rr =>
      cases rr with
      | cons r'' rr =>
        cases rr
        obtain ⟨t, rfl⟩ := r
        obtain ⟨t', rfl⟩ := r'
        obtain ⟨t'', rfl⟩ := r''
        refine call_range_3 c0 ?_ (.inl (PyProof.noPylong_small c1))
        refine wpAny_pyIter_range (IsRange.new ..) c2 ?_
        have I2 : Inv X pins σ H1 { s1 with heap := s1.heap.push { cls := .type "range", data := .fields #[.int i t, .int j t', .int k t''] } } := I1.kept (t' := s1.toks) fun b o e => Heap.get?_push_of_some _ e
        refine pi_one (tk := s1.toks) I2 _ (turn_rangeC _ i k n) ?_ q
        have e1 : i + ((0 : Nat) : Int) * k = i := by simp
        have e2 : (n : Int) - ((0 : Nat) : Int) = Builtin.Range.rangeSize i j k := by rw [c3]; simp
        show IsRangeIter _ _ (i + ((0 : Nat) : Int) * k) ((n : Int) - ((0 : Nat) : Int)) k
        rw [e1, e2]
        exact Heap.get?_push_size _ rfl
end
section
variable {X : Cx} {tg : Expr}
end

section
variable {prog : Program} {w : World} {A : Around} {E : Value → Shared → Prop} {s : Shared}
theorem iter_keys {d : Addr} {o : Obj} {es : Array DictEntry} {ep : Nat} {Q : Value → Shared → Prop} (hd : (d == sysModules) = false) (ho : s.heap.get? d = some o) (hc : o.ExactDict) (hdat : o.data = .dict es ep)
    (hQ : Q (.ref s.heap.objs.size) { s with heap := s.heap.push { cls := .type "dict_keyiterator", data := .fields #[.ref d, .int 0 0, .int es.size 0, .int ep 0] } }) :
    wpAny (model prog w) A (pyIter (.ref d)) Q E s := by
  have hT : s.TypeIs (.ref d) "dict" := ⟨o, ho, hc.1⟩
  refine wpAny_pyIter_slot hT F.slot_dict_iter (wpAny_call_entry F.slot_dict_iter hT F.entry_dict_iter ?_ (F.args_dict_iter_1 _))
  unfold Builtin.«dict.__iter__»
  refine wpAny_bind ?_
  unfold Builtin.Dict.dictSlotNone
  refine wpAny_bind (wpAny_notOrdered_dict hT ?_)
  show wpAny _ _ (pure (Value.ref d)) _ _ s
  refine wpAny_pure ?_
  show wpAny _ _ (Builtin.Dict.showsAll d >>= _) _ _ s
  unfold Builtin.Dict.showsAll
  rw [if_neg (by rw [hd]; exact Bool.false_ne_true)]
  refine wpAny_bind (wpAny_pure ?_)
  refine wpAny_bind (wpAny_dictEntries ho hdat ?_)
  refine wpAny_bind (wpAny_dictEpoch ho hdat ?_)
  refine wpAny_bind (wpAny_newObj_type (wpAny_pure ⟨_, rfl, "dict_keyiterator", _, ⟨_, Heap.get?_push_size _ rfl, rfl⟩, F.slot_dict_keyiterator_next.lookup, ?_⟩))
  simpa [rawInt] using hQ
theorem next_key_item {it d : Addr} {i n ep : Nat} {od : Obj} {es : Array DictEntry} {en : DictEntry} {Q : Option Value → Shared → Prop} (hit : s.heap.IsKeyIter it d i n ep) (hod : s.heap.get? d = some od) (hdd : od.data = .dict es ep)
    (hsz : es.size = n) (hx : es[i]? = some en) (hQ : ∀ h', h'.IsKeyIter it d (i + 1) n ep → Heap.SameBut it s.heap h' → Q (some en.key) { s with heap := h' }) : wpAny (model prog w) A (pyNext (.ref it)) Q E s := by
  obtain ⟨o, ho, hc, hd⟩ := id hit
  unfold pyNext
  refine wpAny_bind (wpAny_attempt (wpAny_callSpecial?_slot (name := Str.ofString "__next__") hit.typeIs F.slot_dict_keyiterator_next
    (wpAny_call_entry F.slot_dict_keyiterator_next hit.typeIs F.entry_dict_keyiterator_next ?_ (F.args_dict_keyiterator_next_1 _))))
  refine wpAny_bind (wpAny_pure ?_)
  refine wpAny_bind ?_
  refine wpAny_bind ?_
  first | refine wpAny_bind (wpAny_typeNameOfWhole_keyiter hit.typeIs (wpAny_pure ?_)) | refine wpAny_bind (wpAny_typeNameOf_keyiter hit.typeIs (wpAny_pure ?_))
  refine wpAny_bind (wpAny_fieldsOf ho hd ?_)
  have hown : Builtin.Dict_items.ownsTuple "dict_keyiterator" = false := by decide
  simp only [hown, Bool.false_eq_true, if_false]
  show wpAny _ _ (if (Value.ref d == Value.none) = true then _ else _) _ _ s
  rw [if_neg (show ¬ ((Value.ref d == Value.none) = true) from Bool.false_ne_true)]
  refine wpAny_bind (wpAny_pure ?_)
  refine wpAny_bind (wpAny_dictEntries hod hdd ?_)
  rw [if_neg (by rw [hsz]; simp)]
  refine wpAny_bind (wpAny_pure ?_)
  refine wpAny_bind (wpAny_dictEpoch hod hdd ?_)
  rw [if_neg (by simp)]
  refine wpAny_pure ?_
  obtain ⟨hlt', hen⟩ := Array.getElem?_eq_some_iff.mp hx
  simp only [show ¬ ((i : Int) < 0) from by omega, if_false, Int.toNat_natCast, Array.getElem?_eq_getElem hlt']
  refine wpAny_bind ?_
  first | refine wpAny_bind (wpAny_typeNameOfWhole_keyiter hit.typeIs (wpAny_pure ?_)) | refine wpAny_bind (wpAny_typeNameOf_keyiter hit.typeIs (wpAny_pure ?_))
  refine wpAny_bind (wpAny_isOneOf_keyiter hit.typeIs ?_)
  show wpAny _ _ (setField (.ref it) 1 (rawInt ((i : Int) + 1)) >>= _) _ _ s
  refine wpAny_bind (wpAny_setField ho hd (by simp) ?_)
  have hit' : (s.heap.update it (Obj.mapFields (·.setIfInBounds 1 (rawInt ((i : Int) + 1))))).IsKeyIter it d (i + 1) n ep :=
    ⟨_, Heap.get?_update_self _ ho (Obj.isFreed_of_fields (Obj.data_mapFields hd _)), (Obj.cls_mapFields ..).trans hc, by rw [Obj.data_mapFields hd]; simp [rawInt]⟩
  refine wpAny_bind (wpAny_holding ?_)
  refine wpAny_bind (wpAny_isOneOf_keyiter (s := { s with heap := s.heap.update it (Obj.mapFields (·.setIfInBounds 1 (rawInt ((i : Int) + 1)))) }) hit'.typeIs ?_)
  show wpAny _ _ (pure es[i].key) _ _ _
  rw [hen]
  exact wpAny_pure (wpAny_pure ⟨_, rfl, wpAny_pure (hQ _ hit' (Heap.SameBut.update ..))⟩)
theorem next_key_end {it d : Addr} {i n ep : Nat} {od : Obj} {es : Array DictEntry} {Q : Option Value → Shared → Prop} (hh : A.handled = none) (hit : s.heap.IsKeyIter it d i n ep) (hod : s.heap.get? d = some od) (hdd : od.data = .dict es ep)
    (hsz : es.size = n) (hge : n ≤ i) (hQ : ∀ h', Heap.ExtBut it s.heap h' → Q none { s with heap := h' }) : wpAny (model prog w) A (pyNext (.ref it)) Q E s := by
  obtain ⟨o, ho, hc, hd⟩ := id hit
  unfold pyNext
  refine wpAny_bind (wpAny_attempt (wpAny_callSpecial?_slot (name := Str.ofString "__next__") hit.typeIs F.slot_dict_keyiterator_next
    (wpAny_call_entry F.slot_dict_keyiterator_next hit.typeIs F.entry_dict_keyiterator_next ?_ (F.args_dict_keyiterator_next_1 _))))
  refine wpAny_bind (wpAny_pure ?_)
  refine wpAny_bind ?_
  refine wpAny_bind ?_
  first | refine wpAny_bind (wpAny_typeNameOfWhole_keyiter hit.typeIs (wpAny_pure ?_)) | refine wpAny_bind (wpAny_typeNameOf_keyiter hit.typeIs (wpAny_pure ?_))
  refine wpAny_bind (wpAny_fieldsOf ho hd ?_)
  have hown : Builtin.Dict_items.ownsTuple "dict_keyiterator" = false := by decide
  simp only [hown, Bool.false_eq_true, if_false]
  show wpAny _ _ (if (Value.ref d == Value.none) = true then _ else _) _ _ s
  rw [if_neg (show ¬ ((Value.ref d == Value.none) = true) from Bool.false_ne_true)]
  refine wpAny_bind (wpAny_pure ?_)
  refine wpAny_bind (wpAny_dictEntries hod hdd ?_)
  rw [if_neg (by rw [hsz]; simp)]
  refine wpAny_bind (wpAny_pure ?_)
  refine wpAny_bind (wpAny_dictEpoch hod hdd ?_)
  rw [if_neg (by simp)]
  refine wpAny_pure ?_
  have hge' : es.size ≤ i := by rw [hsz]; exact hge
  simp only [show ¬ ((i : Int) < 0) from by omega, if_false, Int.toNat_natCast, Array.getElem?_eq_none hge']
  refine wpAny_bind ?_
  first | refine wpAny_bind (wpAny_typeNameOfWhole_keyiter hit.typeIs (wpAny_pure ?_)) | refine wpAny_bind (wpAny_typeNameOf_keyiter hit.typeIs (wpAny_pure ?_))
  show wpAny _ _ (setField (.ref it) 0 .none >>= _) _ _ s
  refine wpAny_bind (wpAny_setField ho hd (by simp) ?_)
  show wpAny _ _ (newExc (.type "StopIteration") [] >>= _) _ _ _
  refine wpAny_bind ?_
  simp only [newExc, newTuple]
  refine wpAny_bind (wpAny_newObj_type ?_ (by size_fits))
  refine wpAny_bind (m := firstArgMember _ _) (wpAny_of_eq (a := Value.none) (by first | rfl | (simp only [firstArgMember]; rfl)) ?_)
  refine wpAny_newObj_type ?_ (by size_fits)
  simp only [raiseNew]
  refine wpAny_bind (wpAny_handled ?_)
  rw [show A.in1.handled = none from hh]
  refine wpAny_bind (wpAny_pure (wpAny_throw ?_))
  refine wpAny_bind (wpAny_isInstance (T := "StopIteration") (b := true) ⟨_, Heap.get?_push_size _ rfl, rfl⟩ isSubtype_stop ?_)
  exact wpAny_pure (hQ _ (((Heap.SameBut.update ..).extBut.push _).push _))
end

theorem kv_get {κ : Type} {kvs : List (κ × V)} {vs : List (κ × Value)} (h : KV kvs vs) : ∀ {i : Nat} {k : κ} {v : V}, kvs[i]? = some (k, v) → ∃ u, vs[i]? = some (k, u) ∧ RelV v u := by
  unfold KV at h
  induction h with
  | nil => intro i k v e; simp at e
  | @cons a b l₁ l₂ r t ih =>
    intro i k v e
    cases i with
    | zero =>
      simp only [List.getElem?_cons_zero, Option.some.injEq] at e
      subst e
      refine ⟨b.2, ?_, r.2⟩
      simp only [List.getElem?_cons_zero]
      exact congrArg some (Prod.ext r.1.symm rfl)
    | succ j =>
      simp only [List.getElem?_cons_succ] at e ⊢
      exact ih e
theorem paired_get {α β : Type} {G : α → β → Prop} {l₁ : List α} {l₂ : List β} (h : Paired G l₁ l₂) : ∀ {i : Nat} {a : α}, l₁[i]? = some a → ∃ b, l₂[i]? = some b ∧ G a b := by
  induction h with
  | nil => intro i a e; simp at e
  | @cons a b l₁ l₂ r t ih =>
    intro i a' e
    cases i with
    | zero =>
      simp only [List.getElem?_cons_zero, Option.some.injEq] at e
      subst e
      exact ⟨b, rfl, r⟩
    | succ j =>
      simp only [List.getElem?_cons_succ] at e ⊢
      exact ih e
theorem relV_key {k : Key} {u : Value} (h : keyIs k u = true) : RelV (kV k) u := by
  rcases keyIs_shape h with ⟨i, t, rfl, rfl⟩ | ⟨x, t, rfl, rfl⟩
  · exact ⟨t, rfl⟩
  · exact ⟨t, rfl⟩
section
variable {X : Cx} {pins : List (Addr × Obj)} {σ : St} {H : Hp} {s : Shared} {d : Addr} {o : Obj}
theorem Inv.frzK {kvs : List (Key × V)} (I : Inv X pins σ H s) (h : H d = some (.frz o (.dK kvs))) :
    (d == sysModules) = false ∧ s.heap.get? d = some o ∧ o.ExactDict ∧ ∃ (es : Array DictEntry) (ep : Nat) (vs : List (Key × Value)), o.data = .dict es ep ∧ es.size = kvs.length ∧ KV kvs vs ∧ s.heap.DictAt (mixKind X.prog X.w) d vs ep := by
  obtain ⟨hd, z, hs, vs, kv, o', es, ep, ho, hx, hdt, r⟩ := I.hok d _ h
  rw [hd] at ho
  cases ho
  refine ⟨hs, hd, hx, es, ep, vs, hdt, ?_, kv, o, es, hd, hx, hdt, r⟩
  have l1 := r.2.1.length
  have l2 : kvs.length = vs.length := Paired.length kv
  rw [Array.length_toList] at l1
  omega
/-- the same for tuple keys -/
theorem Inv.frzT {kvs : List (List Key × V)} (I : Inv X pins σ H s) (h : H d = some (.frz o (.dT kvs))) :
    (d == sysModules) = false ∧ s.heap.get? d = some o ∧ o.ExactDict ∧ ∃ (es : Array DictEntry) (ep : Nat), o.data = .dict es ep ∧ es.size = kvs.length ∧
      ∀ (i : Nat) (k : List Key) (v : V), kvs[i]? = some (k, v) → ∃ (en : DictEntry) (q : Addr), es[i]? = some en ∧ en.key = .ref q ∧ H q = some (.tup (k.map kV)) := by
  obtain ⟨hd, z, hs, xs, pr, o', es, ep, ho, hx, hdt, he, _⟩ := I.hok d _ h
  rw [hd] at ho
  cases ho
  refine ⟨hs, hd, hx, es, ep, hdt, ?_, fun i k v e => ?_⟩
  · have l1 : es.size = xs.length := size_of_entries he
    have l2 : kvs.length = xs.length := Paired.length pr
    omega
  · obtain ⟨b, hb, e1, e2, _⟩ := paired_get pr e
    have q := entry_at he i
    rw [hb] at q
    exact ⟨_, b.2.1, q, rfl, e2⟩
end

/-- the keys of the locked dict at d, in their order -/
def Itk (d : Addr) (o : Obj) (kvs : List (Key × V)) : It :=
  ⟨fun i H => H d = some (.frz o (.dK kvs)) ∧ i < kvs.length, fun i H x H' => H' = H ∧ ∃ k v, kvs[i]? = some (k, v) ∧ x = kV k, fun i H => H d = some (.frz o (.dK kvs)) ∧ kvs.length ≤ i⟩
/-- .. of tuple keys: the key's own tuple -/
def Itkt (d : Addr) (o : Obj) (kvs : List (List Key × V)) : It :=
  ⟨fun i H => H d = some (.frz o (.dT kvs)) ∧ i < kvs.length, fun i H x H' => H' = H ∧ ∃ (k : List Key) (v : V) (q : Addr), kvs[i]? = some (k, v) ∧ x = .ref q ∧ H q = some (.tup (k.map kV)), fun i H => H d = some (.frz o (.dT kvs)) ∧ kvs.length ≤ i⟩
theorem dict_ep {o : Obj} {es es' : Array DictEntry} {ep ep' : Nat} (h : o.data = .dict es ep) (h' : o.data = .dict es' ep') : es' = es ∧ ep' = ep := by
  rw [h] at h'
  cases h'
  exact ⟨rfl, rfl⟩
section
variable {P : Program} {w : World} {K : PySem.W.Frag} {tg : Expr} {d : Addr} {o : Obj} {es : Array DictEntry} {ep : Nat}
theorem turn_keys {kvs : List (Key × V)} (it : Addr) (hod : o.data = .dict es ep) : Turn P w K tg (Itk d o kvs) [it] it (fun i h => h.IsKeyIter it d i kvs.length ep) where
  mem := by simp
  obj := fun i h st b hb => by
    have e : b = it := by simpa using hb
    subst e
    obtain ⟨oi, e, c, dd⟩ := st
    exact ⟨oi, e, fun v z => by rw [dd] at z; cases z⟩
  keep := fun i h h' st k => st.at fun oi e => k it (by simp) oi e
  item := by
    intro X hP hw hK hc i pins s σ H E I hf st hg
    subst hP hw hK
    obtain ⟨hd, hi⟩ := hg
    obtain ⟨f0, f1, f2, f3, f4, f5⟩ := hf it (by simp)
    obtain ⟨hs, hgd, hx, es', ep', vs, hdt, hsz, kv, hm⟩ := I.frzK hd
    obtain ⟨rfl, rfl⟩ := dict_ep hod hdt
    obtain ⟨⟨k, v⟩, hkv⟩ : ∃ p, kvs[i]? = some p := ⟨kvs[i], List.getElem?_eq_getElem hi⟩
    obtain ⟨u, hu, ru⟩ := kv_get kv hkv
    have hl : kvs.length = vs.length := Paired.length kv
    rw [hl] at st
    refine wpAny_pyNext_dict_item st hm hu fun key h' hkey st' sb => ?_
    have I1 : Inv X pins σ H { s with heap := h' } := I.turned (t' := s.toks) (fun b ob hb e => (sb.2 b hb).trans e) f0 f1 f3 f4 f5
    obtain ⟨oi, e, c, dd⟩ := id st'
    refine ⟨key, rfl, go_of (s := { s with heap := h' }) e c dd (by decide) ⟨kV k, H, I1, relV_key (show keyIs k key = true from hkey), ⟨rfl, k, v, hkv, rfl⟩, ?_, fun b hb => (hf b hb).1⟩⟩
    show h'.IsKeyIter it d (i + 1) kvs.length _
    rw [hl]
    exact st'
  done := by
    intro X hP hw hK hc i pins s σ H E I hf st hg
    subst hP hw hK
    obtain ⟨hd, hi⟩ := hg
    obtain ⟨f0, f1, f2, f3, f4, f5⟩ := hf it (by simp)
    obtain ⟨hs, hgd, hx, es', ep', vs, hdt, hsz, kv, hm⟩ := I.frzK hd
    obtain ⟨rfl, rfl⟩ := dict_ep hod hdt
    exact next_key_end (I.ok.hd hc) st hgd hdt hsz hi fun h' eb => ⟨rfl, I.turned (t' := s.toks) (fun b ob hb e => eb b ob hb e) f0 f1 f3 f4 f5⟩
  self := fun A i s Q E st h => wpAny_pyIter_keyiter st h
theorem turn_keysT {kvs : List (List Key × V)} (it : Addr) (hod : o.data = .dict es ep) : Turn P w K tg (Itkt d o kvs) [it] it (fun i h => h.IsKeyIter it d i kvs.length ep) where
  mem := by simp
  obj := fun i h st b hb => by
    have e : b = it := by simpa using hb
    subst e
    obtain ⟨oi, e, c, dd⟩ := st
    exact ⟨oi, e, fun v z => by rw [dd] at z; cases z⟩
  keep := fun i h h' st k => st.at fun oi e => k it (by simp) oi e
  item := by
    intro X hP hw hK hc i pins s σ H E I hf st hg
    subst hP hw hK
    obtain ⟨hd, hi⟩ := hg
    obtain ⟨f0, f1, f2, f3, f4, f5⟩ := hf it (by simp)
    obtain ⟨hs, hgd, hx, es', ep', hdt, hsz, ent⟩ := I.frzT hd
    obtain ⟨rfl, rfl⟩ := dict_ep hod hdt
    obtain ⟨⟨k, v⟩, hkv⟩ : ∃ p, kvs[i]? = some p := ⟨kvs[i], List.getElem?_eq_getElem hi⟩
    obtain ⟨en, q, hen, hkey, hq⟩ := ent i k v hkv
    refine next_key_item st hgd hdt hsz hen fun h' st' sb => ?_
    have I1 : Inv X pins σ H { s with heap := h' } := I.turned (t' := s.toks) (fun b ob hb e => (sb.2 b hb).trans e) f0 f1 f3 f4 f5
    obtain ⟨oi, e, c, dd⟩ := id st'
    exact ⟨en.key, rfl, go_of (s := { s with heap := h' }) e c dd (by decide) ⟨.ref q, H, I1, hkey, ⟨rfl, k, v, q, hkv, rfl, hq⟩, st', fun b hb => (hf b hb).1⟩⟩
  done := by
    intro X hP hw hK hc i pins s σ H E I hf st hg
    subst hP hw hK
    obtain ⟨hd, hi⟩ := hg
    obtain ⟨f0, f1, f2, f3, f4, f5⟩ := hf it (by simp)
    obtain ⟨hs, hgd, hx, es', ep', hdt, hsz, ent⟩ := I.frzT hd
    obtain ⟨rfl, rfl⟩ := dict_ep hod hdt
    exact next_key_end (I.ok.hd hc) st hgd hdt hsz hi fun h' eb => ⟨rfl, I.turned (t' := s.toks) (fun b ob hb e => eb b ob hb e) f0 f1 f3 f4 f5⟩
  self := fun A i s Q E st h => by
    refine wpAny_pyIter_slot st.typeIs F.slot_dict_keyiterator_iter (wpAny_call_entry F.slot_dict_keyiterator_iter st.typeIs F.entry_dict_keyiterator_iter ?_ (F.args_dict_keyiterator_iter_1 _))
    show wpAny _ _ (ret (.ref it)) _ _ s
    exact wpAny_pure ⟨_, rfl, "dict_keyiterator", _, st.typeIs, F.slot_dict_keyiterator_next.lookup, h⟩
end

/-- the dict is locked (tLock, or by the caller) -/
def iKeys (td : TE) : TI := fun σ H R => td σ H fun x H1 => ∃ d o, x = .ref d ∧ ((∃ kvs, H1 d = some (.frz o (.dK kvs)) ∧ R (Itk d o kvs) H1) ∨ ∃ kvs, H1 d = some (.frz o (.dT kvs)) ∧ R (Itkt d o kvs) H1)
section
variable {X : Cx} {tg e : Expr} {td : TE} {apos cpos : Pos}
theorem pi_keys (he : PE X e td) : PI X tg e (iKeys td) := by
  intro pins s σ H R I h
  refine thn (he pins s σ H _ I h) fun u s1 ⟨x, H1, I1, rx, d, o, ex, q⟩ => ?_
  subst ex
  obtain rfl : u = Value.ref d := rx
  rcases q with ⟨kvs, hd, q⟩ | ⟨kvs, hd, q⟩
  · obtain ⟨hs, hgd, hx, es, ep, vs, hdt, hsz, kv, hm⟩ := I1.frzK hd
    refine iter_keys hs hgd hx hdt (pi_one (tk := s1.toks) I1 _ (turn_keys _ hdt) ⟨_, Heap.get?_push_size _ rfl, rfl, ?_⟩ q)
    rw [hsz] <;> rfl
  · obtain ⟨hs, hgd, hx, es, ep, hdt, hsz, ent⟩ := I1.frzT hd
    refine iter_keys hs hgd hx hdt (pi_one (tk := s1.toks) I1 _ (turn_keysT _ hdt) ⟨_, Heap.get?_push_size _ rfl, rfl, ?_⟩ q)
    rw [hsz] <;> rfl
end

/-- the list at a as it stands at each turn, each item in a new pair -/
def Ite (K : PySem.W.Frag) (a : Addr) : It :=
  ⟨fun i H => ∃ (xs : List V) (x : V), SqL K H a xs ∧ xs[i]? = some x, fun i H v H' => ∃ T x, v = .ref T ∧ H T = none ∧ H' = upd H T (.tup [.int (i : Nat), x]) ∧ ∀ xs, SqL K H a xs → xs[i]? = some x, fun i H => ∃ xs : List V, SqL K H a xs ∧ xs.length ≤ i⟩
def iEnum (K : PySem.W.Frag) (ta : TA) : TI := fun σ H R => ta σ H fun vs H1 => ∃ a xs, vs = [.ref a] ∧ SqL K H1 a xs ∧ R (Ite K a) H1
theorem boot_zip5 : bootBuiltins "zip" = some (.type "zip") := by decide +kernel
/-- the lists at a and b as they stand at each turn, the items in new pairs -/
def Itz (K : PySem.W.Frag) (a b : Addr) : It :=
  ⟨fun i H => ∃ (xs ys : List V) (x y : V), SqL K H a xs ∧ SqL K H b ys ∧ xs[i]? = some x ∧ ys[i]? = some y,
    fun i H v H' => ∃ T x y, v = .ref T ∧ H T = none ∧ H' = upd H T (.tup [x, y]) ∧ (∀ xs, SqL K H a xs → xs[i]? = some x) ∧ ∀ ys, SqL K H b ys → ys[i]? = some y,
    fun i H => ∃ xs ys : List V, SqL K H a xs ∧ SqL K H b ys ∧ (xs.length ≤ i ∨ ys.length ≤ i)⟩
theorem turn_zip {P : Program} {w : World} {K : PySem.W.Frag} {elts : List Expr} {kk : Nat} {tpos : Pos} {a b z TI TO i1 i2 : Addr} (D : ZipApart z TI TO i1 i2 a b) :
    Turn P w K (.Tuple elts kk tpos) (Itz K a b) [z, TI, TO, i1, i2] z (fun i h => IsZip h z TI TO .none ∧ IsPair h TI (.ref i1) (.ref i2) ∧ (∃ x y, IsPair h TO x y) ∧ h.IsListIter i1 a i ∧ h.IsListIter i2 b i) where
  mem := by simp
  obj := fun i h st c hc => by
    obtain ⟨hz, hTI, ⟨x, y, hTO⟩, ⟨o1, e1, _, d1⟩, ⟨o2, e2, _, d2⟩⟩ := st
    have e' : c = z ∨ c = TI ∨ c = TO ∨ c = i1 ∨ c = i2 := by simpa using hc
    rcases e' with q | q | q | q | q
    · rw [q]; exact ⟨_, hz, fun v q => nomatch q⟩
    · rw [q]; exact ⟨_, hTI, fun v q => nomatch q⟩
    · rw [q]; exact ⟨_, hTO, fun v q => nomatch q⟩
    · rw [q]; exact ⟨o1, e1, fun v q => by rw [d1] at q; cases q⟩
    · rw [q]; exact ⟨o2, e2, fun v q => by rw [d2] at q; cases q⟩
  keep := fun i h h' st k => by
    obtain ⟨hz, hTI, ⟨x, y, hTO⟩, h1, h2⟩ := st
    exact ⟨k z (by simp) _ hz, k TI (by simp) _ hTI, ⟨x, y, k TO (by simp) _ hTO⟩, h1.at fun o q => k i1 (by simp) o q, h2.at fun o q => k i2 (by simp) o q⟩
  item := by
    intro X hP hw hK hc i pins s σ H E I hf st hg
    subst hP hw hK
    obtain ⟨hz, hTI, ⟨x0, y0, hTO⟩, h1, h2⟩ := st
    obtain ⟨xs, ys, x, y, hqx, hqy, hx, hy⟩ := hg
    obtain ⟨its, rv, p, _⟩ := I.list hqx
    obtain ⟨its2, rv2, p2, _⟩ := I.list hqy
    obtain ⟨u, hu, ru⟩ := rv.get hx
    obtain ⟨u2, hu2, ru2⟩ := rv2.get hy
    have hzl : z < s.heap.objs.size := Heap.lt_size hz
    refine wpAny_pyNext_zip_item D hz hTI hTO h1 h2 p.isList p2.isList (x := u) (y := u2) (by simpa using hu) (by simpa using hu2) fun h' z' TO' h1' h2' hT hsz hk => ?_
    refine ⟨_, rfl, wpAny_letOwnedTupleGo_zip (s := { s with heap := h' }) z' fun h'' z'' sb => ?_⟩
    have hT2 : h''.get? s.heap.objs.size = some { cls := .type "tuple", data := .seq #[u, u2] } := (sb.2 _ (Nat.ne_of_gt hzl)).trans hT
    have new : ObjOk X.prog X.w (upd H s.heap.objs.size (.tup [x, y])) h'' s.heap.objs.size (.tup [x, y]) :=
      ⟨by show 2 ≤ sizeLine; decide, [u, u2], .cons ru (.cons ru2 .nil), ⟨_, hT2, rfl, _, rfl⟩⟩
    have I1 : Inv X pins σ (upd H s.heap.objs.size (.tup [x, y])) { s with heap := h'' } :=
      I.turnedNew (t' := s.toks) (ch := [z, TI, TO, i1, i2]) (fun c o hb q => (sb.2 c (fun q' => hb (by simp [q']))).trans (hk c o (fun q' => hb (by simp [q'])) (fun q' => hb (by simp [q'])) (fun q' => hb (by simp [q'])) (fun q' => hb (by simp [q'])) q)) hf (Nat.le_refl _) new
    refine ⟨.ref s.heap.objs.size, _, I1, rfl, ⟨_, x, y, rfl, I.hok.fresh (Nat.le_refl _), rfl, fun l hl => by rw [I.list_inj hl hqx]; exact hx, fun l hl => by rw [I.list_inj hl hqy]; exact hy⟩, ⟨z'', ?_, ⟨u, u2, ?_⟩, ?_, ?_⟩, fun c hcm => ?_⟩
    · exact (sb.2 _ D.TIz).trans (hk _ _ D.TIz D.TITO D.TIi1 D.TIi2 hTI)
    · exact (sb.2 _ D.TOz).trans TO'
    · exact h1'.at fun o q => (sb.2 _ D.i1z).trans q
    · exact h2'.at fun o q => (sb.2 _ D.i2z).trans q
    · have hlt : c < s.heap.objs.size := by
        have e' : c = z ∨ c = TI ∨ c = TO ∨ c = i1 ∨ c = i2 := by simpa using hcm
        rcases e' with q | q | q | q | q
        · rw [q]; exact hzl
        · rw [q]; exact Heap.lt_size hTI
        · rw [q]; exact Heap.lt_size hTO
        · rw [q]; obtain ⟨_, e1, _⟩ := h1; exact Heap.lt_size e1
        · rw [q]; obtain ⟨_, e2, _⟩ := h2; exact Heap.lt_size e2
      rw [upd_ne (Nat.ne_of_lt hlt)]
      exact (hf c hcm).1
  done := by
    intro X hP hw hK hc i pins s σ H E I hf st hg
    subst hP hw hK
    obtain ⟨hz, hTI, ⟨x0, y0, hTO⟩, h1, h2⟩ := st
    obtain ⟨xs, ys, hqx, hqy, hend⟩ := hg
    obtain ⟨its, rv, p, _⟩ := I.list hqx
    obtain ⟨its2, rv2, p2, _⟩ := I.list hqy
    have l1 := rv.length
    have l2 := rv2.length
    have he : its.toArray[i]? = none ∨ its2.toArray[i]? = none := by
      rcases hend with q | q
      · exact .inl (by simp; omega)
      · exact .inr (by simp; omega)
    exact wpAny_pyNext_zip_end (I.ok.hd hc) D hz hTI hTO h1 h2 p.isList p2.isList he fun h' hk => ⟨rfl, I.turnedL (t' := s.toks) (ch := [z, TI, TO, i1, i2]) (fun c o hb q =>
      hk c o (fun q' => hb (by simp [q'])) (fun q' => hb (by simp [q'])) (fun q' => hb (by simp [q'])) (fun q' => hb (by simp [q'])) q) hf⟩
  self := fun A i s Q E st h => wpAny_pyIter_zip st.1 h
def iZip (K : PySem.W.Frag) (ta : TA) : TI := fun σ H R => ta σ H fun vs H1 => ∃ a b xs ys, vs = [.ref a, .ref b] ∧ SqL K H1 a xs ∧ SqL K H1 b ys ∧ R (Itz K a b) H1
theorem pi_zip {X : Cx} {e e2 : Expr} {ta : TA} {p pos tpos : Pos} {elts : List Expr} {kk : Nat} (hg : Gl X "zip") (hm : X.mg "zip" = none) (ha : PA X [e, e2] ta)
    (hs : starEach [e, e2] X.env = (false, eval e X.env) :: starEach [e2] X.env := by rfl) (hpl : (backTo pos (starEach [e2] X.env)).any (·.1) = false := by rfl) :
    PI X (.Tuple elts kk tpos) (.Call (.Name "zip" p) [e, e2] [] pos) (iZip X.K ta) := by
  intro pins s σ H R I h
  refine Call_ (ld_blt I hg hm boot_zip5 (PyProof.Rows.callWith_type1 (thn (ha pos pins s σ H _ I h) fun us s1 ⟨vs, H1, I1, r1, q1⟩ => ?_) hs hpl))
  obtain ⟨a, b, xs, ys, ex, hqx, hqy, q⟩ := q1
  subst ex
  cases r1 with
  | cons r rr =>
    cases rr with
    | cons r' rr =>
      cases rr
      cases r
      cases r'
      obtain ⟨its, rv, p1, _⟩ := I1.list hqx
      obtain ⟨its2, rv2, p2, _⟩ := I1.list hqy
      have la : a < s1.heap.objs.size := p1.lt
      have lb : b < s1.heap.objs.size := p2.lt
      refine call_zip_2 p1.isList p2.isList fun h' hz hTI hTO h1 h2 hsz hk => wpAny_pyIter_zip hz ?_
      have I2 : Inv X pins σ H1 { s1 with heap := h' } := I1.kept (t' := s1.toks) hk
      refine ⟨s1.heap.objs.size + 4, [s1.heap.objs.size + 4, s1.heap.objs.size + 2, s1.heap.objs.size + 3, s1.heap.objs.size, s1.heap.objs.size + 1], _, _, H1, rfl, I2, turn_zip (PySem.W.ktu_apart s1.heap.objs.size a b la lb), ⟨hz, hTI, ⟨_, _, hTO⟩, h1, h2⟩, fun c hcm => ?_, q⟩
      have e' : c = s1.heap.objs.size + 4 ∨ c = s1.heap.objs.size + 2 ∨ c = s1.heap.objs.size + 3 ∨ c = s1.heap.objs.size ∨ c = s1.heap.objs.size + 1 := by simpa using hcm
      have hle : s1.heap.objs.size ≤ c := by
        rcases e' with z | z | z | z | z
        · rw [z]; exact Nat.le_add_right _ _
        · rw [z]; exact Nat.le_add_right _ _
        · rw [z]; exact Nat.le_add_right _ _
        · rw [z]; exact Nat.le_refl _
        · rw [z]; exact Nat.le_add_right _ _
      exact I1.fpOk hle (I1.hok.fresh hle)
end L2

section 
namespace Bits
open PySem PyProof.Rows

end Bits
end 

section 
namespace TL
open PySem PySem.Builtin PySem.Builtin.Str PySem.StrLaws

abbrev tl (x : Str) : List Nat := x.cps.toList
theorem tl_append (x y : Str) : tl (x ++ y) = tl x ++ tl y := by
  show (x ++ y).cps.toList = _
  rw [Str.cps_append, Array.toList_append]
/-- S stands at the head of l -/
def pre (S l : List Nat) : Bool := l.take S.length == S
/-- what stands before the first S, and behind it -/
def par (S : List Nat) : List Nat → List Nat → Option (List Nat × List Nat)
  | _, [] => none
  | acc, c :: r => if pre S (c :: r) = true then some (acc, (c :: r).drop S.length) else par S (acc ++ [c]) r

/-- joined lists -/
def joinL (S : List Nat) : List (List Nat) → List Nat
  | [] => []
  | [p] => p
  | p :: q :: r => p ++ (S ++ joinL S (q :: r))
theorem tl_join (y : Str) : ∀ parts : List Str, tl (Str.join y parts) = joinL (tl y) (parts.map tl)
  | [] => rfl
  | [_] => rfl
  | x :: z :: r => by
    show tl (x ++ y ++ Str.join y (z :: r)) = tl x ++ (tl y ++ joinL (tl y) ((z :: r).map tl))
    rw [tl_append, tl_append, tl_join y (z :: r), List.append_assoc]
theorem join_eq (y : Str) (parts : List Str) : Txt.join y parts = Str.join y parts := glued_eq_join y parts
end TL
end 

namespace L2
open PySem PySem.Spec PyProof.Rows

theorem strs_of_vals : ∀ {ys : List Str} {us : List Value}, Vals (ys.map V.str) us → StrsAre us ys
  | [], _, .nil => .nil
  | y :: ys, _, .cons r t => by
    obtain ⟨k, rfl⟩ := r
    exact .cons y k (strs_of_vals t)

section
variable {X : Cx} {pins : List (Addr × Obj)} {σ : St} {H : Hp} {s : Shared} {Q : VK}
end

section
variable {X : Cx}

/-- sep.join(a list | a tuple of texts) -/
theorem mt_join : MtR X "str.join" (fun x xs H Q => ∃ a p, ∃ ys : List Str, x = .str a ∧ xs = [.ref p] ∧ (SqL X.K H p (ys.map V.str) ∨ SqT X.K H p (ys.map V.str)) ∧
    (ys.map (·.length)).sum + ys.length * a.length ≤ 16777216 ∧ Q (.str (Txt.join a ys)) H) := by
  intro pins s σ H x xs v us Q I rx rs h
  obtain ⟨a, p, ys, rfl, rfl, hp, hz, h⟩ := h
  obtain ⟨t, rfl⟩ := rx
  cases rs with
  | cons r1 rs =>
    cases rs
    cases r1
    rcases hp with hp | hp
    · obtain ⟨its, r, ⟨o, n, ho, hc, _, hd⟩, _⟩ := I.list hp
      exact PyProof.Rows.join_list (items := its.toArray) ⟨o, ho, hc, n, hd⟩ (by rw [List.toList_toArray]; exact strs_of_vals r) hz fun t' k => ⟨.str _, H, I.tok k, ⟨t', rfl⟩, h⟩
    · obtain ⟨its, r, ht, _⟩ := I.tuple hp
      exact PyProof.Rows.join_tuple (items := its.toArray) ht (by rw [List.toList_toArray]; exact strs_of_vals r) hz fun t' k => ⟨.str _, H, I.tok k, ⟨t', rfl⟩, h⟩

theorem mt1 {id : String} {g : Str → Str → V} (rule : ∀ (a b : Str) (t u : Tok) (s : Shared) (Q : Value → Shared → Prop), (∀ (v : Value) (k : Nat), RelV (g a b) v → Q v { s with toks := k }) →
    wpAny (model X.prog X.w) X.A (call (.builtin id) [.str a t, .str b u]) Q X.xe s) : MtR X id (fun x xs H Q => ∃ a b, x = .str a ∧ xs = [.str b] ∧ Q (g a b) H) := by
  intro pins s σ H x xs v us Q I rx rs h
  obtain ⟨a, b, rfl, rfl, h⟩ := h
  obtain ⟨t, rfl⟩ := rx
  cases rs with
  | cons r1 rs =>
    cases rs
    obtain ⟨u, rfl⟩ := r1
    exact rule a b t u s _ fun v k r => ⟨g a b, H, I.tok k, r, h⟩
theorem mt_startswith : MtR X "str.startswith" (fun x xs H Q => ∃ a b, x = .str a ∧ xs = [.str b] ∧ Q (.bl (Txt.startswith a b)) H) :=
  mt1 (g := fun a b => .bl (Txt.startswith a b)) fun _ _ _ _ s _ h => PySem.SC.startswith (h _ s.toks rfl)
end

section
variable {X : Cx} {o e : Expr} {to te : TE}
def tM1 (r : V → List V → Hp → VK → Prop) (to te : TE) : TE := fun σ H Q => to σ H fun x H1 => (∃ a, x = .str a) ∧ te σ H1 fun y H2 => r x [y] H2 Q
theorem pe_m1 {id : String} {name : Str} {apos pos : Pos} {r : V → List V → Hp → VK → Prop} (slot : Slot "str" name id) (ty : typeOf (.builtin id) = pure (.type "method_descriptor")) (rule : MtR X id r) (ho : PE X o to) (he : PE X e te)
    (hs : starEach [e] X.env = [(false, eval e X.env)] := by rfl) (hbase : attributeBase o name X.env (eval o X.env) = eval o X.env := by rfl) (hline : (apos.endLine == pos.line) = true := by rfl) :
    PE X (.Call (.Attribute o name apos) [e] [] pos) (tM1 r to te) := by
  intro pins s σ H Q I h
  refine PySem.Call_method1 hbase hs hline (thn (ho pins s σ H _ I h) fun v s1 ⟨x, H1, I1, r1, q1⟩ => ?_)
  obtain ⟨⟨a, rfl⟩, q1⟩ := q1
  obtain ⟨t, rfl⟩ := _root_.id r1
  refine ⟨"str", _, F.plainAttrs_str, slot, ty, typeIs_str _ _ _, (fun _ e => nomatch e), Calls.callWith_builtin rfl (Calls.evalArgs_plain (Calls.spliced_cons ?_))⟩
  exact thn (he pins s1 σ H1 _ I1 q1) fun u s2 ⟨y, H2, I2, r2, q2⟩ => Calls.spliced_nil (rule pins s2 σ H2 _ [y] _ [u] Q I2 r1 (.cons r2 .nil) q2)

theorem pe_join {apos pos : Pos} (ho : PE X o to) (he : PE X e te) (hs : starEach [e] X.env = [(false, eval e X.env)] := by rfl) (hbase : attributeBase o "join" X.env (eval o X.env) = eval o X.env := by rfl) (hline : (apos.endLine == pos.line) = true := by rfl) :
    PE X (.Call (.Attribute o "join" apos) [e] [] pos) (tM1 (fun x xs H Q => ∃ a p, ∃ ys : List Str, x = .str a ∧ xs = [.ref p] ∧ (SqL X.K H p (ys.map V.str) ∨ SqT X.K H p (ys.map V.str)) ∧
      (ys.map (·.length)).sum + ys.length * a.length ≤ 16777216 ∧ Q (.str (Txt.join a ys)) H) to te) :=
  pe_m1 F.slot_str_join F.type_str_join mt_join ho he hs hbase hline
end
end L2

namespace L2
open PySem PySem.Spec PyProof.Rows

section
variable {X : Cx}
end

/-- z[lo:hi] -/
def cutS (z : Str) (lo hi : Option Int) : Str :=
  ⟨((z.cps.toList.drop (HT.sIx z.length 0 lo)).take (HT.sIx z.length z.length hi - HT.sIx z.length 0 lo)).toArray⟩
end L2

namespace Att
open PySem PySem.W PySem.Calls PyProof.Rows

theorem ints_of_wellAll {P : Params} {h : Heap} : ∀ (ns : List Int) (vs : List Value), WellAll P h vs (ns.map WData.int) → IntsAre vs ns := by
  intro ns
  induction ns with
  | nil =>
    intro vs w
    rw [List.map_nil] at w
    cases w
    exact .nil
  | cons n ns ih =>
    intro vs w
    rw [List.map_cons] at w
    cases w with
    | cons a b =>
      cases a
      exact .cons _ _ (ih _ b)

theorem script_of {l : OpenLaw} {n : Nat} (hn : l.most = some n) {P : Params} {h : Heap} {args : List WData} {vals : List Value}
    (hpre : l.row.toRowW.claim.pre args = true) (hwl : WellAll P h vals args) :
    ∃ a vs ns, vals = [Value.ref a] ∧ args = [WData.list (ns.map WData.int)] ∧ h.get? a = some { cls := .type "list", data := .seq vs.toArray } ∧ IntsAre vs ns ∧ ns.length ≤ n := by
  have hsh : WShape.hasAll [] args [.list .int] = true := (pre_splitW hpre).1
  have hc : l.pre.holds [] { args := args } = true := (pre_splitW hpre).2
  obtain ⟨d, r, rfl, h1, h2⟩ := hasAllW_cons hsh
  obtain rfl := hasAllW_nil h2
  obtain ⟨xs, rfl, h3⟩ := hasW_list h1
  obtain ⟨ns, rfl⟩ := items_int h3
  have hlen : ns.length ≤ n := by
    unfold OpenLaw.pre at hc
    have h4 : (WTm.not (.lt (.lit (.int (n : Int))) (.len (.arg 0)))).holds [] { args := [.list (ns.map .int)] } = true := by
      have h4 := (holds_andW hc).1
      rw [hn] at h4
      exact h4
    have h5 := condW_of h4 (w_not (w_lt w_lit (w_len_list (w_arg rfl))))
    rw [List.length_map] at h5
    refine Nat.le_of_not_lt fun q => ?_
    have q' : (n : Int) < ((ns.length : Nat) : Int) := by omega
    first
      | (rw [decide_eq_true q'] at h5; exact absurd h5 (by decide))
      | (simp at h5; omega)
  cases hwl with
  | cons w1 w2 =>
    cases w2
    cases w1 with
    | list ho hall => exact ⟨_, _, ns, rfl, rfl, ho, ints_of_wellAll ns _ hall, hlen⟩

theorem post_true (l : OpenLaw) (args : List WData) : l.row.toRowW.claim.post args (.bool true) args = true :=
  postW_of (r := l.row.toRowW) (X := (true == true))
    (show WShape.has [] (.bool true) .bool = true by first | rfl | decide | simp [WShape.has, WShape.arms, WShape.armsAll])
    (show (WTm.eq .res (.lit (.bool true))).value [] { args := args, res := some (.bool true), after := args } = some (.bool (true == true)) from w_eq_bool (w_res rfl) w_lit) rfl

/-- the same from a codeAny of the CALL (for a layer whose function contracts speak of calls) -/
theorem attach_call {l : OpenLaw} {n : Nat} {q : Program} {loose : List Str} {XP : (Str → Option Value) → Heap → Prop} {YP : World → Heap → Prop} {d : DefRec}
    (hn : l.most = some n) (hdf : d.params.defaults = [])
    (call : ∀ (w : World) (s₀ s₁ : Shared) (mg mb : Str → Option Value) (fa : Addr) (o : Obj) (pm cd doc : Value) (a : Addr) (vs : List Value) (ns : List Int),
      Ground q loose [] XP w s₀ mg mb s₁.heap → YP w s₁.heap →
      s₁.heap.get? fa = some o → o.data = .func (docDef d.name d.params d.body d.scope pm cd doc) → s₁.heap.CodeRec cd d.name → mg d.name = some (.ref fa) →
      s₁.heap.get? a = some { cls := .type "list", data := .seq vs.toArray } → IntsAre vs ns → ns.length ≤ n → s₁.gens = #[] →
      codeAny (model l.prog w) callerA (.call (.ref fa) ⟨[.ref a], []⟩) (fun r s' => r = .ok (.ret (.bool true)) ∧ OldK s₁.heap s'.heap ∧ s'.os = s₁.os ∧ AllBare s'.gens) s₁) :
    WalkO q loose XP YP l.row.toRowW d [] (fun f vs => PySem.call f vs) := by
  intro w s₀ s₁ mg mb G Y fa o pm cd doc dV kV ho hd hcd hD hmg hg args vals as hpre hlay hrd hwl hlo
  obtain rfl : dV = .none := Dflts.none hD hdf
  obtain rfl : kV = .none := Dflts.noKw hD
  obtain ⟨a, vs, ns, rfl, rfl, hobj, hints, hlen⟩ := script_of hn hpre hwl
  refine enter_call (codeAny_mono (call w s₀ s₁ mg mb fa o pm cd doc a vs ns G Y ho (fd_plain hd) hcd hmg hobj hints hlen hg) fun r s' hq => ?_)
  obtain ⟨rfl, h2, h3, h4⟩ := hq
  exact ⟨.inl ⟨.bool true, .bool true, [], rfl, fun _ => rfl, .bool true, post_true l _, fun _ => ⟨List.Pairwise.nil, fun _ hm => (nomatch hm)⟩⟩, h2, h3, h4⟩

section
variable {prog : Program} {w : World} {A : Around} {E : Value → Shared → Prop} {s : Shared} {K : Frag}

end
end Att

namespace L2
open PySem PySem.Spec PyProof.Rows

theorem vals_ints : ∀ {vs : List Value} {ns : List Int}, IntsAre vs ns → Vals (ns.map V.int) vs
  | _, _, .nil => .nil
  | _, _, .cons n t h => .cons ⟨t, rfl⟩ (vals_ints h)

/-- nothing is tracked but the script, known to the object (or it is an object of the module) -/
def Only (H : Hp) : Prop := ∀ b, H b = none ∨ ∃ o xs, H b = some (.frz o (.lst xs))

/-- THE HEAD: the law's promise, at the heap behind the top. F, the promise of the law's def, may use that base is part of the heap (so K.In base, base.Ns mainGlobals mg stand in Mod) -/
theorem law_call {P : Program} {w : World} {K : PySem.W.Frag} {mg mb : Str → Option Value} {CX : CXT} {k : Nat} {fa a : Addr} {fd : FuncData} {x : Str} {sp : Sp} {s₁ : Shared} {vs : List Value} {ns : List Int}
    (KX : K.In s₁.heap) (hns : s₁.heap.Ns mainGlobals mg) (hb : s₁.heap.Ns builtinsNs mb) (hbb : ∀ x : Str, x ≠ "__name__" → mb x = bootBuiltins x) (hlim : s₁.heap.NoLimit) (hg : s₁.gens = #[])
    (ha : s₁.heap.get? a = some { cls := .type "list", data := .seq vs.toArray }) (hi : IntsAre vs ns) (hl : ns.length ≤ sizeLine) (hr : Room k callerA)
    (F : ∀ base : Heap, K.In base → base.Ns mainGlobals mg → FnOk P w K mg base CX k fa fd [x] sp) (hbind : ∀ (s : Shared) (u : Value), BindsTo s fd ⟨[u], []⟩ [(x, u)])
    (hsp : ∀ H : Hp, Only H → SqL K H a (ns.map V.int) → sp [.ref a] H (fun v _ => v = .bl true) fun _ _ _ => False)
    (hCX : ∀ H e s', CX [] H s₁ (fun _ _ _ => False) e s' → False) :
    codeAny (model P w) callerA (.call (.ref fa) ⟨[.ref a], []⟩) (fun r s' => r = .ok (.ret (.bool true)) ∧ OldK s₁.heap s'.heap ∧ s'.os = s₁.os ∧ AllBare s'.gens) s₁ := by
  have rv := vals_ints hi
  have lenV := hi.length
  -- from an abstract heap in which nothing but the script may be tracked
  have core : ∀ H : Hp, Only H → SqL K H a (ns.map V.int) → HOk P w H s₁.heap → (∀ b, H b ≠ none → b = a) → (H a ≠ none → K.lookup a = none) →
      codeAny (model P w) callerA (.call (.ref fa) ⟨[.ref a], []⟩) (fun r s' => r = .ok (.ret (.bool true)) ∧ OldK s₁.heap s'.heap ∧ s'.os = s₁.os ∧ AllBare s'.gens) s₁ := by
    intro H hO hS hok hA hK
    have base_of : ∀ {b : Addr} {o : Obj}, s₁.heap.get? b = some o → H b = none → (hidT s₁.heap H).get? b = some o := fun e n => hidT_get e n
    have noA : ∀ {b : Addr} {o : Obj} {es : Array DictEntry} {ep : Nat}, s₁.heap.get? b = some o → o.data = .dict es ep → H b = none := fun {b o es ep} e d => by
      cases q : H b with
      | none => rfl
      | some u =>
        have e' : b = a := hA b (by rw [q]; simp)
        subst e'
        rw [ha] at e; cases e
        have d' : Data.seq vs.toArray _ = Data.dict es ep := d
        cases d'
    have nsK : ∀ {b : Addr} {m : Str → Option Value}, s₁.heap.Ns b m → (hidT s₁.heap H).Ns b m := fun {b m} ⟨o, es, ep, e, d, r⟩ => ⟨o, es, ep, base_of e (noA e d), d, r⟩
    have hKb : K.In (hidT s₁.heap H) := fun b o e => base_of (KX b o e) (by
      cases q : H b with
      | none => rfl
      | some u =>
        have e' : b = a := hA b (by rw [q]; simp)
        subst e'
        rw [hK (by rw [q]; simp)] at e; cases e)
    have hM : Mod K mg (hidT s₁.heap H) := ⟨hKb, nsK hns, ⟨mb, nsK hb, hbb⟩, let ⟨mc, h1, h2⟩ := hlim; ⟨mc, nsK h1, h2⟩⟩
    have e0 : Env0 P w K mg (hidT s₁.heap H) callerA [] s₁ H := ⟨rfl, hM, fun b o e => of_hidT e, Nat.le_of_eq (hidT_size _ _), trivial, fun b hb => absurd (show b ∈ ([] : List Addr) from hb) (by simp), hok, .of_eq hg⟩
    refine codeAny_mono ((F _ hKb (nsK hns)).run callerA [] s₁ H ⟨[.ref a], []⟩ [.ref a] [.ref a] _ _ hr e0 (hbind s₁ (.ref a)) (.cons rfl .nil) (hsp H hO hS)) fun r s' h => ?_
    cases r with
    | error e => exact (hCX H e s' h).elim
    | ok fl =>
      cases fl with
      | next => exact False.elim h
      | brk => exact False.elim h
      | cont => exact False.elim h
      | ret u =>
        obtain ⟨v, H', os, bare, un, hok', r', q⟩ := h
        have q' : v = .bl true := q
        subst q'
        obtain rfl : u = Value.bool true := r'
        refine ⟨rfl, OldK.of_keep fun b o e => ?_, os, bare⟩
        cases q : H b with
        | none => exact un.keep b o e q (by intro z; exact absurd (show b ∈ ([] : List Addr) from z) (by simp)) (by simp)
        | some u =>
          rcases hO b with z | ⟨ob, xs, z⟩
          · rw [q] at z; cases z
          · have z2 := un.frzs b ob _ z
            obtain ⟨e1, _⟩ := hok b _ z
            obtain ⟨e2, _⟩ := hok' b _ z2
            rw [e] at e1; cases e1
            exact e2
  cases hk : K.lookup a with
  | some o =>
    -- the script is one of the module's own objects
    have e := KX a o hk
    rw [ha] at e
    cases e
    refine core (fun _ => none) (fun _ => .inl rfl) (.inr ⟨_, vs.toArray, _, hk, rfl, rfl, rfl, by rw [List.size_toArray, lenV]; exact hl, by simpa using rv⟩) (fun b u z => by have z' : (none : Option HO) = some u := z; cases z') (fun b z => absurd rfl z) fun z => absurd rfl z
  | none =>
    refine core (fun b => if b = a then some (.frz { cls := .type "list", data := .seq vs.toArray } (.lst (ns.map V.int))) else none) (fun b => ?_) (.inl (.inr ⟨{ cls := .type "list", data := .seq vs.toArray }, if_pos rfl⟩)) (fun b u z => ?_) (fun b z => ?_) fun _ => hk
    · by_cases hb : b = a
      · exact .inr ⟨_, _, if_pos hb⟩
      · exact .inl (if_neg hb)
    · by_cases hb : b = a
      · have z' := (if_pos hb).symm.trans z
        cases z'
        subst hb
        exact ⟨ha, by rw [List.length_map]; exact hl, vs, _, rv, ha⟩
      · have z' := (if_neg hb).symm.trans z
        cases z'
    · by_cases hb : b = a
      · exact hb
      · exact absurd (if_neg hb) z
end L2

namespace L2
open PySem PySem.Spec PyProof.Rows

/-- the goal that k_head leaves (case hc), from the law's promise. F gives the function object fd (K's own) once, then the promise over every base -/
theorem walk_of {l : PySem.W.OpenLaw} {n k : Nat} {q : Program} {loose : List Str} {XP : (Str → Option Value) → Heap → Prop} {YP : World → Heap → Prop} {d : DefRec} {K : Params → PySem.W.Frag} {CX : World → CXT} {sp : World → Sp} {x : Str}
    (hn : l.most = some n) (hn2 : n ≤ sizeLine) (hdf : d.params.defaults = []) (hr : Room k callerA)
    (hY : ∀ (w : World) (h : Heap), YP w h → (K w.params).In h)
    (F : ∀ (w : World) (mg : Str → Option Value) (fa : Addr) (h : Heap), (K w.params).In h → h.Ns mainGlobals mg → mg d.name = some (.ref fa) →
      ∃ fd : FuncData, (∀ (s : Shared) (u : Value), BindsTo s fd ⟨[u], []⟩ [(x, u)]) ∧
        ∀ base : Heap, (K w.params).In base → base.Ns mainGlobals mg → FnOk l.prog w (K w.params) mg base (CX w) k fa fd [x] (sp w))
    (hsp : ∀ (w : World) (H : Hp) (a : Addr) (ns : List Int), ns.length ≤ n → Only H → SqL (K w.params) H a (ns.map V.int) → sp w [.ref a] H (fun v _ => v = .bl true) fun _ _ _ => False)
    (hCX : ∀ (w : World) (H : Hp) (s : Shared) (e : Value) (s' : Shared), CX w [] H s (fun _ _ _ => False) e s' → False) :
    PySem.W.WalkO q loose XP YP l.row.toRowW d [] (fun f vs => PySem.call f vs) := by
  refine Att.attach_call hn hdf fun w s₀ s₁ mg mb fa o pm cd doc a vs ns G Y ho hd hcd hmg hobj hints hlen hg => ?_
  have KX := hY w _ Y
  obtain ⟨fd, hb, hF⟩ := F w mg fa _ KX G.T.g hmg
  exact law_call KX G.T.g G.T.b G.T.builtins G.T.nolimit hg hobj hints (Nat.le_trans hlen hn2) hr hF hb (fun H hO hS => hsp w H a ns hlen hO hS) fun H e s' => hCX w H s₁ e s'
end L2

/- THE LAST THEOREM (shape; LID, My.* are yours):
   My.Adr: a structure of the addresses that your layer names (classes, functions); My.Txt K t: a structure (Prop) of the equations over K;
   My.txt_mk : {K} {implicit addresses ..} (e1 : nsIn K mainGlobals "law" = some (some (.ref f))) (e2 : K.lookup f = some ⟨oc, od, .func (fnOf "law" "law" params body scope dV kV doc pm an cdv ct), sl⟩) (e3 : codeIn K cdv "law" = true) .. : ∃ t, My.Txt K t

set_option maxRecDepth 100000 in
set_option maxHeartbeats 0 in
theorem PySem.Challenge.cw_LID_holds : PySem.Challenge.rw_LID.Holds := by
  w_on; o_law; k_head; (case hw => w_witness2)
  k_fill
  refine L2.walk_of (l := PySem.Challenge.rw_LID) (n := 63) (k := 40) (x := "script") (CX := fun w => ..) (sp := fun _ => My.sp_law) rfl (by decide) rfl ⟨rfl, by decide, by decide⟩ (fun w h Y => PySem.W.kIn_of Y) ?F ?S ?C
  case F =>
    intro w mg fa h KX G hmg
    have T : ∃ t, My.Txt (L2.KOf KX) t := by
      dsimp only [L2.KOf]                          -- K must stand as «<heap const> w.params» for k_is
      refine' My.txt_mk ?e1 ?e2 ?e3 ..
      (case e1 => PySem.W.k_is)                    -- in the order: a name -> its address -> its object -> its parts
      (case e2 => PySem.W.k_is)
      ..
    obtain ⟨t, T⟩ := T
    have e0 := hmg.symm.trans (PySem.W.mg_of KX G T.law)
    cases e0                                       -- fa is the law's own address
    exact ⟨_, fun s u => .of_eq rfl, fun base kb nb => My.law_fn T kb nb⟩     -- if «.of_eq rfl» comes too early: refine' ⟨_, ?b, fun base kb nb => My.law_fn T kb nb⟩; exact fun s u => .of_eq rfl
  case S => exact fun w H a ns hl hO hS => ..
  case C => exact ..
(the tactic k_is has no namespace: write k_is) -/

namespace L2
open PySem PySem.Spec PyProof.Rows

def defArgs (s : Stmt) : Arguments := match s with
  | .FunctionDef _ a _ _ _ _ _ _ _ _ => a
  | _ => { posonlyargs := [], args := [], vararg := none, kwonlyargs := [], kw_defaults := [], kwarg := none, defaults := [] }
def defBody (s : Stmt) : List Stmt := match s with
  | .FunctionDef _ _ b _ _ _ _ _ _ _ => b
  | _ => []
def defScope (s : Stmt) : Scope := match s with
  | .FunctionDef _ _ _ _ _ _ sc _ _ _ => sc
  | _ => { kind := .function, names := [], isGenerator := false, isCoroutine := false }

abbrev CX0 : CXT := fun _ _ _ _ _ _ => False
abbrev E0 : XK := fun _ _ _ => False
theorem pass0 {X : Cx} : Passes CX0 X E0 := fun _ _ _ _ _ _ _ h => h.elim

structure Fun (K : PySem.W.Frag) (x qual : Str) (st : Stmt) (f : Addr) (fd : FuncData) : Prop where
  ex : ∃ (oc : Value) (od : Option Addr) (kV doc pm : Value) (an : Option Addr) (cdv ct : Value) (osl : Array (Option Value)),
    fd = PySem.W.fnOf x qual (defArgs st) (defBody st) (defScope st) .none kV doc pm an cdv ct ∧ K.lookup f = some ⟨oc, od, .func fd, osl⟩ ∧ PySem.W.codeIn K cdv qual = true
  kp : PySem.W.keepIn K (.ref f) = true
section
variable {P : Program} {w : World} {K : PySem.W.Frag} {mg : Str → Option Value} {base : Heap}
/-- THE RULE for a def: its body as a term of rules, and the reading of that term -/
theorem Fun.ok {x qual : Str} {st : Stmt} {f : Addr} {fd : FuncData} {N ps : List Str} {k : Nat} {sp : Sp} (F : Fun K x qual st f fd) (S : FnScope N ps (defScope st)) (len : ∀ vs H Q E, sp vs H Q E → vs.length = ps.length)
    (hbody : ∀ (cdv : Value) (A : Around) (outer : List Env) (s : Shared) (H : Hp) (vs : List V) (Q : VK) (E : XK), Room k (A.deeper (envOfC qual (defScope st) s.heap.objs.size f cdv)) → sp vs H Q E →
      ∃ t, PSs (cxOf CX0 P w K mg base N qual (defScope st) f cdv A outer s H E).nox (defBody st) t ∧ t { nx := fun _ H' => Q .non H', rt := Q } (start N vs) H) : FnOk P w K mg base CX0 (k + 1) f fd ps sp := by
  obtain ⟨oc, od, kV, doc, pm, an, cdv, ct, osl, rfl, lk, hcd⟩ := F.ex
  refine fn_of lk hcd S len fun A outer s H vs Q E hr hsp => ?_
  obtain ⟨t, h, q⟩ := hbody cdv A outer s H vs Q E hr hsp
  exact ⟨t, h.nox, q⟩
/-- how its arguments bind (no defaults): h is «fun _ _ _ _ _ _ us hl => match us, hl with | [_, _], _ => rfl», one _ a parameter -/
theorem Fun.binds {x qual : Str} {st : Stmt} {f : Addr} {fd : FuncData} {ps : List Str} (F : Fun K x qual st f fd)
    (h : ∀ (kV doc pm : Value) (an : Option Addr) (cdv ct : Value) (us : List Value), us.length = ps.length → bindArgs (PySem.W.fnOf x qual (defArgs st) (defBody st) (defScope st) .none kV doc pm an cdv ct) ⟨us, []⟩ = pure (ps.zip us)) : Binds K fd ps [] := by
  obtain ⟨oc, od, kV, doc, pm, an, cdv, ct, osl, rfl, lk, hcd⟩ := F.ex
  exact .all (h kV doc pm an cdv ct)
theorem fun_mk {x qual : Str} {st : Stmt} {f : Addr} {oc : Value} {od an : Option Addr} {osl : Array (Option Value)} {kV doc pm cdv ct : Value} (l : K.lookup f = some ⟨oc, od, .func (PySem.W.fnOf x qual (defArgs st) (defBody st) (defScope st) .none kV doc pm an cdv ct), osl⟩)
    (c : PySem.W.codeIn K cdv qual = true) (k : PySem.W.keepIn K (.ref f) = true) : Fun K x qual st f (PySem.W.fnOf x qual (defArgs st) (defBody st) (defScope st) .none kV doc pm an cdv ct) := ⟨⟨oc, od, kV, doc, pm, an, cdv, ct, osl, rfl, l, c⟩, k⟩
end
theorem hu_of {A : Around} {k : Nat} (hr : Room k A) : A.units + 1 < cLine := Nat.lt_of_le_of_lt (Nat.add_le_add_left (by decide : 1 ≤ 64) _) hr.units
theorem small1000 {n : Nat} (h : n ≤ 1000) : n < sizeLine := Nat.lt_of_le_of_lt h (by decide)

section
variable {X : Cx}
theorem pv (i : Nat) {x : Str} {pos : Pos} (hN : X.N[i]? = some x := by rfl) (hv : Vis X.env.scope x := by first | exact Or.inl rfl | exact Or.inr (Or.inl rfl) | exact Or.inr (Or.inr rfl)) (hd : (x == ("__debug__" : Str)) = false := by decide)
    (hcd : (x == ("__classdict__" : Str)) = false := by decide) : PE X (.Name x pos) (tVar i) := pe_var hN hv hd hcd
/-- len of a dict -/
theorem call_lenD : CallR X (.builtin "len") (fun xs H Q => ∃ a kvs, xs = [V.ref a] ∧ H a = some (.dK kvs) ∧ Q (.int kvs.length) H) := by
  intro pins s σ H xs us Q I r h
  obtain ⟨a, kvs, rfl, ha, q⟩ := h
  obtain ⟨u, rfl, ru⟩ := vals1 r
  cases ru
  exact d_len I (.inl ha) fun t s' I' => ⟨.int kvs.length, H, I', ⟨t, rfl⟩, q⟩
end

theorem iteF {A B : Prop} (h : B) : if false = true then A else B := by
  rw [if_neg Bool.false_ne_true]
  exact h
theorem iteT {A B : Prop} (h : A) : if true = true then A else B := by
  rw [if_pos rfl]
  exact h
theorem ite2 {c A B : Prop} [Decidable c] (h1 : c → A) (h2 : ¬ c → B) : if c then A else B := by
  by_cases h : c
  · rw [if_pos h]
    exact h1 h
  · rw [if_neg h]
    exact h2 h
/-- all that was tracked is as it was -/
def Same (H H' : Hp) : Prop := ∀ b o, H b = some o → H' b = some o
theorem Same.refl (H : Hp) : Same H H := fun _ _ h => h
theorem Same.trans {H H1 H2 : Hp} (a : Same H H1) (b : Same H1 H2) : Same H H2 := fun c o h => b c o (a c o h)
theorem Same.free {H H' : Hp} (e : Same H H') {l : Addr} (h : H' l = Option.none) : H l = Option.none := by
  cases q : H l with
  | none => rfl
  | some o =>
    rw [e l o q] at h
    cases h
theorem Same.seq {K : PySem.W.Frag} {H H' : Hp} {a : Addr} {xs : List V} (e : Same H H') (h : SqL K H a xs) : SqL K H' a xs := by
  rcases h with (h | ⟨o, h⟩) | h
  · exact .inl (.inl (e _ _ h))
  · exact .inl (.inr ⟨o, e _ _ h⟩)
  · exact .inr h

section
variable {κ : Type} [DecidableEq κ]
end
theorem at_of {xs : List V} {z : Int} {j : Nat} {v : V} (e : z = (j : Int)) (h : xs[j]? = some v) : atI xs z = some v := by
  rw [e]
  exact atI_nat h
end L2

namespace L2
open PySem PySem.Spec PyProof.Rows

structure Bl (mg : Str → Option Value) : Prop where
  len : mg "len" = none
  range : mg "range" = none
  abs : mg "abs" = none
  int : mg "int" = none
  bool : mg "bool" = none
  str : mg "str" = none
  lst : mg "list" = none
  tup : mg "tuple" = none
  isinstance : mg "isinstance" = none
  repr : mg "repr" = none
  min : mg "min" = none
  max : mg "max" = none
  sum : mg "sum" = none
  all : mg "all" = none
  any : mg "any" = none
  enumerate : mg "enumerate" = none
  zip : mg "zip" = none
theorem bl_mk {K : PySem.W.Frag} {h : Heap} {mg : Str → Option Value} (X : K.In h) (G : h.Ns mainGlobals mg) (z1 : PySem.W.nsIn K mainGlobals "len" = some none) (z2 : PySem.W.nsIn K mainGlobals "range" = some none) (z3 : PySem.W.nsIn K mainGlobals "abs" = some none) (z4 : PySem.W.nsIn K mainGlobals "int" = some none)
    (z5 : PySem.W.nsIn K mainGlobals "bool" = some none) (z6 : PySem.W.nsIn K mainGlobals "str" = some none) (z7 : PySem.W.nsIn K mainGlobals "list" = some none) (z8 : PySem.W.nsIn K mainGlobals "tuple" = some none) (z9 : PySem.W.nsIn K mainGlobals "isinstance" = some none) (z10 : PySem.W.nsIn K mainGlobals "repr" = some none)
    (z11 : PySem.W.nsIn K mainGlobals "min" = some none) (z12 : PySem.W.nsIn K mainGlobals "max" = some none) (z13 : PySem.W.nsIn K mainGlobals "sum" = some none) (z14 : PySem.W.nsIn K mainGlobals "all" = some none) (z15 : PySem.W.nsIn K mainGlobals "any" = some none) (z16 : PySem.W.nsIn K mainGlobals "enumerate" = some none) (z17 : PySem.W.nsIn K mainGlobals "zip" = some none) : Bl mg :=
  ⟨PySem.W.mg_none_of X G z1, PySem.W.mg_none_of X G z2, PySem.W.mg_none_of X G z3, PySem.W.mg_none_of X G z4, PySem.W.mg_none_of X G z5, PySem.W.mg_none_of X G z6, PySem.W.mg_none_of X G z7, PySem.W.mg_none_of X G z8, PySem.W.mg_none_of X G z9, PySem.W.mg_none_of X G z10, PySem.W.mg_none_of X G z11, PySem.W.mg_none_of X G z12, PySem.W.mg_none_of X G z13, PySem.W.mg_none_of X G z14, PySem.W.mg_none_of X G z15, PySem.W.mg_none_of X G z16, PySem.W.mg_none_of X G z17⟩

def Cal (P : Program) (w : World) (K : PySem.W.Frag) (mg : Str → Option Value) (base : Heap) (x : Str) (k : Nat) (ps : List Str) (sp : Sp) : Prop :=
  ∃ (f : Addr) (fd : FuncData), FnOk P w K mg base CX0 k f fd ps sp ∧ mg x = some (.ref f) ∧ PySem.W.keepIn K (.ref f) = true ∧ Binds K fd ps []
section
variable {X : Cx} {x : Str} {k : Nat} {ps : List Str} {sp : Sp} {e : Expr} {es : List Expr} {t : TA} {p pos : Pos}
theorem pe_cal (C : Cal X.prog X.w X.K X.mg X.base x k ps sp) (hr : Room k X.A) (hg : Gl X x) (ha : PA X (e :: es) t) (hdb : (x == ("__debug__" : Str)) = false := by decide)
    (he : starEach (e :: es) X.env = (false, eval e X.env) :: starEach es X.env := by rfl) (hpl : (backTo pos (starEach es X.env)).any (·.1) = false := by rfl) :
    PE X (.Call (.Name x p) (e :: es) [] pos) (tCall sp [] E0 t) := by
  obtain ⟨f, fd, G, m, kp, b⟩ := C
  exact pe_call G hr hg m kp b .nil pass0 ha hdb he hpl
end

def rLen (K : PySem.W.Frag) : List V → Hp → VK → Prop := fun xs H Q => ∃ x n, xs = [x] ∧ LenV K x H n ∧ Q (.int n) H
def rAbs : List V → Hp → VK → Prop := fun xs H Q => ∃ i, xs = [.int i] ∧ Q (.int (if i < 0 then -i else i)) H
def rMin2 : List V → Hp → VK → Prop := fun xs H Q => ∃ i j, xs = [.int i, .int j] ∧ Q (.int (if j < i then j else i)) H
def rMax2 : List V → Hp → VK → Prop := fun xs H Q => ∃ i j, xs = [.int i, .int j] ∧ Q (.int (if j > i then j else i)) H
def rInt1 : List V → Hp → VK → Prop := fun xs H Q => (∃ i, xs = [.int i] ∧ Q (.int i) H) ∨ ∃ k, xs = [.bl k] ∧ Q (.int (if k then 1 else 0)) H
def rListOf (K : PySem.W.Frag) : List V → Hp → VK → Prop := fun xs H Q => ∃ p ys, xs = [.ref p] ∧ (SqL K H p ys ∨ SqT K H p ys) ∧ ∀ l, H l = none → Q (.ref l) (upd H l (.lst ys))
def Isi (K : PySem.W.Frag) (H : Hp) (x : V) (T : String) (b : Bool) : Prop := ∃ t, TyOf K H x t ∧ PySem.W.kitOne K t (.type T) = some b
def rIsi (K : PySem.W.Frag) : List V → Hp → VK → Prop := fun xs H Q => ∃ x T b, xs = [x, .ty T] ∧ Isi K H x T b ∧ Q (.bl b) H
theorem call_isinst {X : Cx} : CallR X (.builtin "isinstance") (rIsi X.K) := by
  intro pins s σ H xs us Q I r h
  obtain ⟨x, T, b, rfl, ⟨t, ty, e⟩, q⟩ := h
  obtain ⟨u1, u2, rfl, r1, r2⟩ := vals2 r
  cases (show u2 = Value.type T from r2)
  exact isinst_ok I r1 ty e fun tk => ⟨.bl b, H, I.tok _, rfl, q⟩
section
variable {K : PySem.W.Frag} {H : Hp}
end

section
variable {K : PySem.W.Frag} {H H' : Hp}
theorem Same.seqT {a : Addr} {xs : List V} (e : Same H H') (h : SqT K H a xs) : SqT K H' a xs := by
  rcases h with (h | ⟨o, h⟩) | h
  · exact .inl (.inl (e _ _ h))
  · exact .inl (.inr ⟨o, e _ _ h⟩)
  · exact .inr h
mutual
theorem Dp.same (s : Same H H') : ∀ (d : PyData) (v : V), Dp K H v d → Dp K H' v d
  | .none, _, h => by cases h; exact .non
  | .bool b, _, h => by cases h; exact .bl b
  | .int i, _, h => by cases h; exact .int i
  | .str x, _, h => by cases h; exact .str x
  | .list ds, _, h => by
    cases h with
    | lst hs ha => exact .lst (s.seq hs) (DpAll.same s ds _ ha)
  | .tuple ds, _, h => by
    cases h with
    | tup hs ha => exact .tup (s.seqT hs) (DpAll.same s ds _ ha)
  | .dict _, _, h => by cases h
theorem DpAll.same (s : Same H H') : ∀ (ds : List PyData) (vs : List V), DpAll K H vs ds → DpAll K H' vs ds
  | [], _, h => by cases h; exact .nil
  | d :: ds, _, h => by
    cases h with
    | cons h1 h2 => exact .cons (Dp.same s d _ h1) (DpAll.same s ds _ h2)
end
theorem DpAll.length : ∀ {ds : List PyData} {vs : List V}, DpAll K H vs ds → vs.length = ds.length
  | [], _, h => by cases h; rfl
  | d :: ds, _, h => by
    cases h with
    | cons h1 h2 => rw [List.length_cons, List.length_cons, DpAll.length h2]
theorem DpAll.get : ∀ {ds : List PyData} {vs : List V} {i : Nat} {d : PyData}, DpAll K H vs ds → ds[i]? = some d → ∃ v, vs[i]? = some v ∧ Dp K H v d
  | [], _, _, _, _, e => by simp at e
  | d :: ds, _, 0, _, h, e => by
    cases h with
    | cons h1 h2 =>
      simp at e; subst e
      exact ⟨_, rfl, h1⟩
  | d :: ds, _, i + 1, _, h, e => by
    cases h with
    | cons h1 h2 =>
      obtain ⟨v, q1, q2⟩ := DpAll.get (i := i) h2 (by simpa using e)
      exact ⟨v, by simpa using q1, q2⟩
theorem DpAll.append : ∀ {ds es : List PyData} {vs us : List V}, DpAll K H vs ds → DpAll K H us es → DpAll K H (vs ++ us) (ds ++ es)
  | [], _, _, _, h, g => by cases h; exact g
  | d :: ds, _, _, _, h, g => by
    cases h with
    | cons h1 h2 => exact .cons h1 (DpAll.append h2 g)
theorem DpAll.take : ∀ {ds : List PyData} {vs : List V} (n : Nat), DpAll K H vs ds → DpAll K H (vs.take n) (ds.take n)
  | _, _, 0, _ => by rw [List.take_zero, List.take_zero]; exact .nil
  | [], _, _ + 1, h => by cases h; exact .nil
  | d :: ds, _, n + 1, h => by
    cases h with
    | cons h1 h2 => exact .cons h1 (DpAll.take n h2)
theorem DpAll.ints : ∀ (ns : List Int), DpAll K H (ns.map V.int) (ns.map PyData.int)
  | [] => .nil
  | n :: ns => .cons (.int n) (DpAll.ints ns)
theorem Dp.tup_inv {v : V} {ds : List PyData} (h : Dp K H v (.tuple ds)) : ∃ a xs, v = .ref a ∧ SqT K H a xs ∧ DpAll K H xs ds := by
  cases h with
  | tup hs ha => exact ⟨_, _, rfl, hs, ha⟩
theorem DpAll.ints_inv : ∀ {ns : List Int} {vs : List V}, DpAll K H vs (ns.map PyData.int) → vs = ns.map V.int
  | [], _, h => by cases h; rfl
  | n :: ns, _, h => by
    cases h with
    | cons h1 h2 =>
      cases h1
      rw [DpAll.ints_inv h2]; rfl
theorem Same.upd {a : Addr} {o : HO} (h : H a = none) : Same H (upd H a o) := fun b u e => by rw [upd_ne (ne_of_none e h)]; exact e
end
/-- the heap without an address -/
def del (H : Hp) (a : Addr) : Hp := fun b => if b = a then none else H b
section
variable {H H' : Hp} {a b : Addr} {o : HO}
theorem del_same : Same (del H a) H := fun b u e => by
  unfold del at e
  split at e
  · cases e
  · exact e
theorem del_upd : del (upd H a o) a = del H a := by
  funext c; unfold del upd; split
  · rfl
  · rfl
theorem del_ne (h : b ≠ a) : del H a b = H b := by unfold del; rw [if_neg h]
theorem del_fresh (h : H a = none) : Same H (del H a) := fun b u e => by rw [del_ne (ne_of_none e h)]; exact e
theorem del_mono (s : Same H H') : Same (del H a) (del H' a) := fun b u e => by
  unfold del at e ⊢
  split at e
  · cases e
  · rename_i h; rw [if_neg h]; exact s _ _ e
end
/-- all but p stays -/
def Keep (p : Addr) (H H' : Hp) : Prop := ∀ b o, H b = some o → b ≠ p → H' b = some o
theorem Keep.refl {p : Addr} {H : Hp} : Keep p H H := fun _ _ e _ => e
theorem Keep.trans {p : Addr} {H H1 H2 : Hp} (a : Keep p H H1) (b : Keep p H1 H2) : Keep p H H2 := fun c o e n => b c o (a c o e n) n
theorem Keep.upd {p : Addr} {H : Hp} {o : HO} : Keep p H (upd H p o) := fun b u e n => by rw [upd_ne n]; exact e
theorem Same.keep {p : Addr} {H H' : Hp} (s : Same H H') : Keep p H H' := fun b o e _ => s b o e

structure PenAt (H : Hp) (p q : Addr) (n : Nat) : Prop where
  ex : ∃ (ns : List Int) (a g : Int), H p = some (.lst [.ref q, .int a, .int g]) ∧ H q = some (.lst (ns.map V.int)) ∧ ns.length ≤ 63 ∧ 0 ≤ a ∧ a ≤ n
theorem PenAt.mono {H : Hp} {p q : Addr} {n m : Nat} (h : PenAt H p q n) (l : n ≤ m) : PenAt H p q m := by
  obtain ⟨ns, a, g, h1, h2, h3, h4, h5⟩ := h.ex
  exact ⟨ns, a, g, h1, h2, h3, h4, by omega⟩
theorem PenAt.same {H H' : Hp} {p q : Addr} {n : Nat} (h : PenAt H p q n) (s : Same H H') : PenAt H' p q n := by
  obtain ⟨ns, a, g, h1, h2, h3⟩ := h.ex
  exact ⟨ns, a, g, s _ _ h1, s _ _ h2, h3⟩
theorem PenAt.ne {H : Hp} {p q t : Addr} {n : Nat} (h : PenAt H p q n) (e : H t = none) : t ≠ p := by
  obtain ⟨ns, a, g, h1, _⟩ := h.ex
  rintro rfl
  rw [h1] at e; cases e
theorem PenAt.neq {H : Hp} {p q t : Addr} {n : Nat} (h : PenAt H p q n) (e : H t = none) : t ≠ q := by
  obtain ⟨ns, a, g, h1, h2, _⟩ := h.ex
  rintro rfl
  rw [h2] at e; cases e
/-- another list is changed -/
theorem PenAt.other {H : Hp} {p q D : Addr} {n : Nat} {o : HO} (h : PenAt H p q n) (n1 : D ≠ p) (n2 : D ≠ q) : PenAt (upd H D o) p q n := by
  obtain ⟨ns, a, g, h1, h2, h3⟩ := h.ex
  exact ⟨ns, a, g, by rw [upd_ne n1.symm]; exact h1, by rw [upd_ne n2.symm]; exact h2, h3⟩
def sp_pen (K : PySem.W.Frag) : Sp := fun vs H Q _ => ∃ (a : Addr) (ns : List Int), vs = [.ref a] ∧ SqL K H a (ns.map V.int) ∧ ns.length ≤ 63 ∧ ∀ p q H', H p = none → H q = none → PenAt H' p q 0 → Same H H' → Q (.ref p) H'
def sp_take (K : PySem.W.Frag) : Sp := fun vs H Q _ => ∃ (p q : Addr) (u : Int) (n : Nat), vs = [.ref p, .int u] ∧ PenAt H p q n ∧ n < 1000000 ∧ 0 < u ∧ u < 1073741824 ∧ ∀ r H', 0 ≤ r → r < u → PenAt H' p q (n + 1) → Keep p H H' → Q (.int r) H'
end L2
namespace L2
open PySem PySem.Spec PyProof.Rows
section
variable {K : PySem.W.Frag} {H : Hp} {Q : VK} {p : Addr} {xs : List V} {i : Int} {v : V}
theorem ixL (h : H p = some (.lst xs)) (e : atI xs i = some v) (q : Q v H) : rIxL K (.ref p) (.int i) H Q := ⟨p, xs, i, v, rfl, rfl, SqL.of h, e, q⟩
theorem setL {j : Nat} {R : Hp → Prop} (h : H p = some (.lst xs)) (e : ixN xs.length i = some j) (q : R (upd H p (.lst (xs.set j v)))) : rSetL (.ref p) (.int i) v H R := ⟨p, xs, i, j, rfl, rfl, h, e, q⟩
theorem lenL (h : H p = some (.lst xs)) (q : Q (.int xs.length) H) : rLen K [.ref p] H Q := ⟨_, _, rfl, .inl ⟨_, SqL.of h, rfl⟩, q⟩
theorem appL (h : H p = some (.lst xs)) (l : xs.length < sizeLine) (q : Q .non (upd H p (.lst (xs ++ [v])))) : rAppend (.ref p) [v] H Q := ⟨p, xs, v, rfl, rfl, h, l, q⟩
theorem isi {x : V} {T : String} {b : Bool} (h : Isi K H x T b) (q : Q (.bl b) H) : rIsi K [x, .ty T] H Q := ⟨x, T, b, rfl, h, q⟩
theorem slL {lo hi : Option Int} (h : SqL K H p xs) (q : ∀ l, H l = none → Q (.ref l) (upd H l (.lst (cutV xs lo hi)))) : rSlL K (.ref p) lo hi H Q := ⟨p, xs, rfl, h, q⟩
end
end L2
namespace L2
open PySem PySem.Spec PyProof.Rows
theorem lay_ints : ∀ ns : List Int, PyData.canLayAll0 (ns.map PyData.int) = true
  | [] => rfl
  | n :: ns => by
    show PyData.canLayAll0 (PyData.int n :: ns.map PyData.int) = true
    rw [PyData.canLayAll0, lay_ints ns, PyData.canLay0]; rfl
theorem dep_ints : ∀ ns : List Int, PyData.depthAll (ns.map PyData.int) = 0
  | [] => rfl
  | n :: ns => by
    show PyData.depthAll (PyData.int n :: ns.map PyData.int) = 0
    rw [PyData.depthAll, dep_ints ns, PyData.depth]; rfl
theorem shaped_ints (ns : List Int) : SeqAt.shaped (.list (ns.map PyData.int)) = true := by
  unfold SeqAt.shaped
  rw [PyData.canLay0, lay_ints, PyData.depth, dep_ints]; rfl
theorem shaped_nil : SeqAt.shaped (.list []) = true := shaped_ints []
section
variable {K : PySem.W.Frag} {H : Hp} {Q : VK} {x y : V} {d e : PyData}
theorem neD (hd : Dp K H x d) (he : Dp K H y e) (sd : SeqAt.shaped d = true) (se : SeqAt.shaped e = true) (q : Q (.bl (!PyData.eqv d e)) H) : rNeD K x y H Q := ⟨d, e, hd, he, sd, se, q⟩
end
theorem atI_mod {xs : List V} {z : Int} (h0 : 0 ≤ z) (h1 : z < xs.length) : ∃ v, atI xs z = some v ∧ xs[z.toNat]? = some v := by
  have hl : z.toNat < xs.length := by omega
  exact ⟨xs[z.toNat], at_of (j := z.toNat) (by omega) (List.getElem?_eq_getElem hl), List.getElem?_eq_getElem hl⟩
end L2
namespace L2
open PySem PySem.Spec PyProof.Rows
def LstAt (K : PySem.W.Frag) (H : Hp) (a : Addr) (ds : List PyData) : Prop := ∃ xs, H a = some (.lst xs) ∧ DpAll K (del H a) xs ds
section
variable {K : PySem.W.Frag} {H H' : Hp} {a p : Addr} {ds : List PyData} {d : PyData} {v : V} {Q : VK} {o : HO}
theorem LstAt.same (h : LstAt K H a ds) (s : Same H H') : LstAt K H' a ds := by
  obtain ⟨xs, h1, h2⟩ := h
  exact ⟨xs, s _ _ h1, DpAll.same (del_mono s) _ _ h2⟩
theorem LstAt.dp (h : LstAt K H a ds) : Dp K H (.ref a) (.list ds) := by
  obtain ⟨xs, h1, h2⟩ := h
  exact .lst (SqL.of h1) (DpAll.same del_same _ _ h2)
theorem LstAt.new {xs : List V} (h : H a = none) (hd : DpAll K H xs ds) : LstAt K (upd H a (.lst xs)) a ds :=
  ⟨xs, upd_same, by rw [del_upd]; exact DpAll.same (del_fresh h) _ _ hd⟩
theorem LstAt.app (h : LstAt K H a ds) (hv : Dp K (del H a) v d) (l : ds.length < sizeLine) (q : ∀ H', LstAt K H' a (ds ++ [d]) → Keep a H H' → (∀ b, H b = none → H' b = none ∨ b = a) → Q .non H') : rAppend (.ref a) [v] H Q := by
  obtain ⟨xs, h1, h2⟩ := h
  refine appL h1 (by rw [h2.length]; exact l) (q _ ⟨_, upd_same, ?_⟩ Keep.upd fun b hb => ?_)
  · rw [del_upd]; exact h2.append (.cons hv .nil)
  · by_cases e : b = a
    · exact .inr e
    · exact .inl (by rw [upd_ne e]; exact hb)
theorem LstAt.ne (h : LstAt K H a ds) (hp : H p = none) : p ≠ a := by
  obtain ⟨xs, h1, _⟩ := h
  rintro rfl
  rw [h1] at hp; cases hp
end
theorem cut_all {xs : List V} {k : Nat} (h : xs.length ≤ k) : cutV xs none (some (k : Int)) = xs := by
  unfold cutV
  rw [HT.sIx_none, HT.sIx_nat, List.drop_zero, Nat.min_eq_right h]
  exact List.take_of_length_le (by omega)
end L2
namespace L2
open PySem PySem.Spec PyProof.Rows
def LcB (J : It) (D : Addr) (g : TG) (tt : TT) (te : TE) (vs : List Nat) (σ : St) (H1 : Hp) (Qd : Hp → Prop) : Prop := ∃ W : Nat → Nat → Hp → Prop, (∃ m, W 0 m (upd H1 D (.lst []))) ∧ ∀ i m H, W i m H →
  (J.stop i H ∧ Qd H) ∨ (J.go i H ∧ ∃ Nx : Hp → Prop, (∀ H', Nx H' → ∃ m', m' < m ∧ W (i + 1) m' H') ∧ ∀ x H', J.yld i H x H' → g x (wipe σ vs) H' fun σ2 H2 => wipe σ2 vs = wipe σ vs ∧ tt σ2 H2 fun b H3 =>
    if b = true then te σ2 H3 fun y H4 => ∃ acc, H4 D = some (.lst acc) ∧ acc.length < sizeLine ∧ Nx (upd H4 D (.lst (acc ++ [y]))) else Nx H3)
theorem tLc_eq {wi : TI} {g : TG} {tt : TT} {te : TE} {vs : List Nat} {σ : St} {H : Hp} {Q : VK} : tLc wi g tt te vs σ H Q = wi σ H fun J H1 => ∀ D, H1 D = none → LcB J D g tt te vs σ H1 (fun H2 => Q (.ref D) H2) := rfl
def FoB (J : It) (g : TG) (tb : TS) (D : Ends) (σ : St) (H1 : Hp) : Prop := ∃ W : Nat → Nat → St → Hp → Prop, (∃ m, W 0 m σ H1) ∧ ∀ i m σ H, W i m σ H →
  (J.stop i H ∧ D.nx σ H) ∨ (J.go i H ∧ ∃ N : St → Hp → Prop, (∀ σ' H', N σ' H' → ∃ m', m' < m ∧ W (i + 1) m' σ' H') ∧ ∀ x H', J.yld i H x H' → g x σ H' fun σ2 H2 => tb { D with nx := N, ct := N, bk := D.nx } σ2 H2)
theorem tFor_eq {wi : TI} {g : TG} {tb : TS} {D : Ends} {σ : St} {H : Hp} : tFor wi g tb D σ H = wi σ H fun J H1 => FoB J g tb D σ H1 := rfl
section
variable {K : PySem.W.Frag} {a D : Addr} {xs : List V} {g : TG} {tt : TT} {te : TE} {vs : List Nat} {σ : St} {H H1 : Hp} {Qd : Hp → Prop} {lo : Int} {n : Nat}
theorem LcB.list (Pv : Nat → Hp → Prop) (h0 : Pv 0 (upd H1 D (.lst []))) (hl : ∀ i H, i ≤ xs.length → Pv i H → SqL K H a xs)
    (hs : ∀ i x H, xs[i]? = some x → Pv i H → g x (wipe σ vs) H fun σ2 H2 => wipe σ2 vs = wipe σ vs ∧ tt σ2 H2 fun b H3 =>
      if b = true then te σ2 H3 fun y H4 => ∃ acc, H4 D = some (.lst acc) ∧ acc.length < sizeLine ∧ Pv (i + 1) (upd H4 D (.lst (acc ++ [y]))) else Pv (i + 1) H3) (hd : ∀ H, Pv xs.length H → Qd H) : LcB (Itl K a) D g tt te vs σ H1 Qd := lc_list Pv h0 hl hs hd
theorem LcB.tup (Pv : Nat → Hp → Prop) (h0 : Pv 0 (upd H1 D (.lst []))) (hl : ∀ i H, i ≤ xs.length → Pv i H → SqT K H a xs)
    (hs : ∀ i x H, xs[i]? = some x → Pv i H → g x (wipe σ vs) H fun σ2 H2 => wipe σ2 vs = wipe σ vs ∧ tt σ2 H2 fun b H3 =>
      if b = true then te σ2 H3 fun y H4 => ∃ acc, H4 D = some (.lst acc) ∧ acc.length < sizeLine ∧ Pv (i + 1) (upd H4 D (.lst (acc ++ [y]))) else Pv (i + 1) H3) (hd : ∀ H, Pv xs.length H → Qd H) : LcB (Itt K a) D g tt te vs σ H1 Qd := lc_tup Pv h0 hl hs hd
theorem LcB.range (Pv : Nat → Hp → Prop) (h0 : Pv 0 (upd H1 D (.lst [])))
    (hs : ∀ i H, i < n → Pv i H → g (.int (lo + i)) (wipe σ vs) H fun σ2 H2 => wipe σ2 vs = wipe σ vs ∧ tt σ2 H2 fun b H3 =>
      if b = true then te σ2 H3 fun y H4 => ∃ acc, H4 D = some (.lst acc) ∧ acc.length < sizeLine ∧ Pv (i + 1) (upd H4 D (.lst (acc ++ [y]))) else Pv (i + 1) H3) (hd : ∀ H, Pv n H → Qd H) : LcB (Itr lo n) D g tt te vs σ H1 Qd := lc_range Pv h0 hs hd
end
section
variable {K : PySem.W.Frag} {a : Addr} {xs : List V} {g : TG} {tb : TS} {D : Ends} {σ : St} {H : Hp} {lo : Int} {n : Nat}
theorem FoB.list (Pv : Nat → St → Hp → Prop) (h0 : Pv 0 σ H) (hl : ∀ i σ H, i ≤ xs.length → Pv i σ H → SqL K H a xs)
    (hs : ∀ i x σ H, xs[i]? = some x → Pv i σ H → g x σ H fun σ2 H2 => tb { D with nx := Pv (i + 1), ct := Pv (i + 1), bk := D.nx } σ2 H2) (hd : ∀ σ H, Pv xs.length σ H → D.nx σ H) : FoB (Itl K a) g tb D σ H := for_list Pv h0 hl hs hd
theorem FoB.tup (Pv : Nat → St → Hp → Prop) (h0 : Pv 0 σ H) (hl : ∀ i σ H, i ≤ xs.length → Pv i σ H → SqT K H a xs)
    (hs : ∀ i x σ H, xs[i]? = some x → Pv i σ H → g x σ H fun σ2 H2 => tb { D with nx := Pv (i + 1), ct := Pv (i + 1), bk := D.nx } σ2 H2) (hd : ∀ σ H, Pv xs.length σ H → D.nx σ H) : FoB (Itt K a) g tb D σ H := for_tup Pv h0 hl hs hd
theorem FoB.range (Pv : Nat → St → Hp → Prop) (h0 : Pv 0 σ H)
    (hs : ∀ i σ H, i < n → Pv i σ H → g (.int (lo + i)) σ H fun σ2 H2 => tb { D with nx := Pv (i + 1), ct := Pv (i + 1), bk := D.nx } σ2 H2) (hd : ∀ σ H, Pv n σ H → D.nx σ H) : FoB (Itr lo n) g tb D σ H := for_range Pv h0 hs hd
end
end L2
namespace L2
open PySem PySem.Spec PyProof.Rows
theorem tyL {K : PySem.W.Frag} {H : Hp} {a : Addr} {xs : List V} (h : H a = some (.lst xs)) : tyV K "list" (.ref a) H := .inl ⟨rfl, _, SqL.of h⟩
end L2
namespace L2
open PySem PySem.Spec PyProof.Rows
section
variable {K : PySem.W.Frag} {t : TG} {u ts : TGs} {v : V} {r xs : List V} {σ : St} {H : Hp} {Q : St → Hp → Prop} {a : Addr} {n : Nat}
theorem gCons_c : gCons t u (v :: r) σ H Q = t v σ H (fun σ' H' => u r σ' H' Q) := by
  apply propext
  constructor
  · rintro ⟨v', r', e, h⟩
    cases e
    exact h
  · exact fun h => ⟨v, r, rfl, h⟩
theorem gNil_c : gNil [] σ H Q = Q σ H := by
  apply propext
  exact ⟨fun ⟨_, h⟩ => h, fun h => ⟨rfl, h⟩⟩
end
theorem sz {n : Nat} (h : n ≤ 1000) : n ≤ sizeLine := Nat.le_of_lt (small1000 h)
end L2
namespace L2
open PySem PySem.Spec PyProof.Rows
section
variable {i j : Int} {x y : Str} {b c : Bool} {H : Hp} {Q : VK}
theorem rEq_ii : rEq (.int i) (.int j) H Q = Q (.bl (decide (i = j))) H := by
  apply propext
  have e : decide (V.int i = V.int j) = decide (i = j) := by simp only [V.int.injEq]
  unfold rEq
  rw [e]
  exact ⟨fun ⟨_, h⟩ => h, fun h => ⟨rfl, h⟩⟩
theorem rNe_ii : rNe (.int i) (.int j) H Q = Q (.bl (!decide (i = j))) H := by
  apply propext
  have e : decide (V.int i = V.int j) = decide (i = j) := by simp only [V.int.injEq]
  unfold rNe
  rw [e]
  exact ⟨fun ⟨_, h⟩ => h, fun h => ⟨rfl, h⟩⟩
theorem rEq_bb : rEq (.bl b) (.bl c) H Q = Q (.bl (b == c)) H := by
  apply propext
  have e : decide (V.bl b = V.bl c) = (b == c) := by cases b <;> cases c <;> rfl
  unfold rEq
  rw [e]
  exact ⟨fun ⟨_, h⟩ => h, fun h => ⟨rfl, h⟩⟩
theorem rNe_bb : rNe (.bl b) (.bl c) H Q = Q (.bl (!(b == c))) H := by
  apply propext
  have e : decide (V.bl b = V.bl c) = (b == c) := by cases b <;> cases c <;> rfl
  unfold rNe
  rw [e]
  exact ⟨fun ⟨_, h⟩ => h, fun h => ⟨rfl, h⟩⟩
theorem rEq_ss : rEq (.str x) (.str y) H Q = Q (.bl (decide (x = y))) H := by
  apply propext
  have e : decide (V.str x = V.str y) = decide (x = y) := by simp only [V.str.injEq]
  unfold rEq
  rw [e]
  exact ⟨fun ⟨_, h⟩ => h, fun h => ⟨rfl, h⟩⟩
theorem rNe_ss : rNe (.str x) (.str y) H Q = Q (.bl (!decide (x = y))) H := by
  apply propext
  have e : decide (V.str x = V.str y) = decide (x = y) := by simp only [V.str.injEq]
  unfold rNe
  rw [e]
  exact ⟨fun ⟨_, h⟩ => h, fun h => ⟨rfl, h⟩⟩
end
end L2
namespace L2
open PySem PySem.Spec PyProof.Rows
structure Ok (k w : Nat) (d : PyData) : Prop where
  lay : d.canLay0 = true
  dep : d.depth ≤ k
  wt : d.weight ≤ w
  sh : d.intsShort 13 = true
  sw : d.showable = true
theorem Ok.mono {k w k' w' : Nat} {d : PyData} (h : Ok k w d) (a : k ≤ k') (b : w ≤ w') : Ok k' w' d := ⟨h.lay, Nat.le_trans h.dep a, Nat.le_trans h.wt b, h.sh, h.sw⟩
theorem Ok.shaped {k w : Nat} {d : PyData} (h : Ok k w d) (hk : k ≤ 64) : SeqAt.shaped d = true := by
  unfold SeqAt.shaped
  rw [h.lay, decide_eq_true (Nat.le_trans h.dep hk)]; rfl
theorem Ok.eqv {k w : Nat} {d : PyData} (h : Ok k w d) : PyData.eqv d d = true := SeqAt.eqv_refl d h.lay
end L2

namespace L2
open PySem PySem.Spec PyProof.Rows
section
variable {K : PySem.W.Frag} {a : Addr} {xs : List V} {g : TG} {tb : TS} {D : Ends} {σ : L2.St} {H : Hp} {lo c : Int} {n : Nat}
end
section
variable {K : PySem.W.Frag} {a D : Addr} {xs : List V} {g : TG} {tt : TT} {te : TE} {vs : List Nat} {σ : L2.St} {H H1 : Hp} {Qd : Hp → Prop}
end
/-- a pass as data -/
abbrev P4 := Int × Int × Int × Int
def psOf : Nat → List P4
  | 0 => [(0, 1, 0, 1)]
  | 1 => [(0, 2, 0, 2), (1, 2, 0, 2), (0, 1, 1, 2)]
  | 2 => [(0, 4, 0, 4), (2, 4, 0, 4), (0, 2, 2, 4), (1, 2, 0, 2), (0, 1, 1, 2)]
  | _ => [(0, 8, 0, 8), (4, 8, 0, 8), (0, 4, 4, 8), (2, 4, 0, 4), (0, 2, 2, 4), (1, 2, 0, 2), (0, 1, 1, 2)]
/-- the passes told so far, with the side 2 ^ j still to be halved -/
def pre (l j : Nat) : List P4 := (psOf l).take (1 + 2 * (l - j))
theorem num_bd {c a n : Int} (h0 : 0 ≤ a) (h1 : a ≤ n) (hn : n < 1000000) : (c % 2147483629 + 40709 * a + 7919 * a * a + 31).natAbs < 2 ^ 64 := by
  have e1 : 0 ≤ c % 2147483629 := Int.emod_nonneg _ (by decide)
  have e2 : c % 2147483629 < 2147483629 := Int.emod_lt_of_pos _ (by decide)
  have e3 : a * a ≤ 1000000 * 1000000 := Int.mul_le_mul (by omega) (by omega) h0 (by decide)
  have e4 : 0 ≤ a * a := Int.mul_nonneg h0 h0
  rw [Int.mul_assoc]
  generalize a * a = z at *
  generalize c % 2147483629 = y at *
  omega
end L2
namespace L2
open PySem PySem.Spec PyProof.Rows
theorem SqT.keep {K : PySem.W.Frag} {H H' : Hp} {t D : Addr} {xs ys : List V} (h : SqT K H t xs) (k : Keep D H H') (hD : H D = some (.lst ys)) : SqT K H' t xs := by
  rcases h with (h | ⟨o, h⟩) | h
  · exact .inl (.inl (k _ _ h (ne_of h hD (by intro z; cases z))))
  · exact .inl (.inr ⟨o, k _ _ h (ne_of h hD (by intro z; cases z))⟩)
  · exact .inr h
end L2
namespace L2
open PySem PySem.Spec PyProof.Rows
mutual
/-- data without a list -/
def nl : PyData → Bool
  | .list _ | .dict _ => false
  | .tuple ds => nlAll ds
  | .none | .bool _ | .int _ | .str _ => true
def nlAll : List PyData → Bool
  | [] => true
  | d :: ds => nl d && nlAll ds
end
section
variable {K : PySem.W.Frag} {H : Hp} {p : Addr} {ys : List V}
end
end L2

namespace L2
open PySem PySem.Spec PyProof.Rows
def gK {α : Type} (na nk : Nat) (us ws : List α) : List α := if us.length = na ∧ ws.length = nk then us ++ ws else []
theorem kbinds_mk {K : PySem.W.Frag} {fd : FuncData} {ps ks : List Str} {na nk : Nat} (h1 : ps.length = na + nk) (h2 : ks.length = nk) (h0 : 0 < ps.length)
    (h : ∀ us ws : List Value, us.length = na → ws.length = nk → bindArgs fd ⟨us, ks.zip ws⟩ = pure (ps.zip (us ++ ws))) : KBinds K fd ps ks (gK na nk) (gK na nk) where
  to := fun s us ws _ hl => by
    unfold gK at hl ⊢
    split at hl
    · rename_i e
      rw [if_pos e]
      exact .of_eq (h us ws e.1 e.2)
    · simp at hl; omega
  rel := fun {vs us zs ws} r q => by
    unfold gK
    rw [r.length, q.length]
    split
    · exact r.append q
    · exact .nil
def CalW (P : Program) (w : World) (K : PySem.W.Frag) (mg : Str → Option Value) (base : Heap) (x : Str) (k : Nat) (ps : List Str) (sp : Sp) (BF : FuncData → Prop) : Prop :=
  ∃ (f : Addr) (fd : FuncData), FnOk P w K mg base CX0 k f fd ps sp ∧ mg x = some (.ref f) ∧ PySem.W.keepIn K (.ref f) = true ∧ BF fd
section
variable {X : Cx} {x : Str} {k : Nat} {ps ks : List Str} {sp : Sp} {BF : FuncData → Prop} {e : Expr} {es : List Expr} {kws : List Keyword} {t tk : TA} {p pos : Pos} {na nk : Nat} {dvs : List V}
theorem pe_calP (C : CalW X.prog X.w X.K X.mg X.base x k ps sp BF) (hb : ∀ fd, BF fd → Binds X.K fd ps []) (hr : Room k X.A) (hg : Gl X x) (ha : PA X (e :: es) t) (hdb : (x == ("__debug__" : Str)) = false := by decide)
    (he : starEach (e :: es) X.env = (false, eval e X.env) :: starEach es X.env := by rfl) (hpl : (backTo pos (starEach es X.env)).any (·.1) = false := by rfl) :
    PE X (.Call (.Name x p) (e :: es) [] pos) (tCall sp [] E0 t) := by
  obtain ⟨f, fd, G, m, kp, b⟩ := C
  exact pe_call G hr hg m kp (hb fd b) .nil pass0 ha hdb he hpl
end
/-- a list of ints at an address that is tracked -/
abbrev Ints (H : Hp) (a : Addr) (ns : List Int) : Prop := H a = some (.lst (ns.map V.int))
theorem Ints.dp {K : PySem.W.Frag} {H : Hp} {a : Addr} {ns : List Int} (h : Ints H a ns) : Dp K H (.ref a) (.list (ns.map PyData.int)) := .lst (SqL.of h) (DpAll.ints ns)
end L2

namespace L2
open PySem
def absI (i : Int) : Int := if i < 0 then -i else i
def bst (l u c : Int) : Nat → Int
  | 0 => l
  | 1 => if absI (l + u - c - u) < absI (l + u - c - l) then u else l
  | _ => if absI (l + u - c - c) < absI (l + u - c - (if absI (l + u - c - u) < absI (l + u - c - l) then u else l)) then c else (if absI (l + u - c - u) < absI (l + u - c - l) then u else l)
def near (l u c : Int) : Int := bst l u c 2
def fore (n l u c : Int) : Int := if n = 0 then 0 else if n = 1 then l else if n = 2 then u else if n = 3 then (l + u) / 2 else near l u c
def lft (rs : List Int) (i step : Nat) : Int := if step ≤ i then rs.getD (i - step) 0 else 0
def fil1 (n : Int) (rs as : List Int) (step i : Nat) : Int := (rs.getD i 0 - fore n (lft rs i step) (as.getD i 0) (lft as i step)) % 256
def filt (n : Int) (rs as : List Int) (step : Nat) : List Int := (List.range rs.length).map (fil1 n rs as step)
theorem Keep.fresh {p : Addr} {H H' : Hp} (k : Keep p H H') {l : Addr} (h : H' l = none) (n : l ≠ p) : H l = none := by
  cases q : H l with
  | none => rfl
  | some o =>
    rw [k l o q n] at h
    cases h
theorem Keep.same {p : Addr} {H H1 H2 : Hp} (k : Keep p H H1) (s : Same H1 H2) : Keep p H H2 := fun b o e n => s _ _ (k b o e n)
end L2
namespace L2
open PySem
end L2
namespace L2
open PySem
end L2

namespace L2
open PySem
end L2
namespace L2
open PySem
end L2

namespace L2
open PySem PySem.Spec PyProof.Rows
def HC (mg : Str → Option Value) (x : Str) (v : V) : Prop := ∃ u, mg x = some u ∧ RelV v u
section
variable {X : Cx} {x : Str} {k : Nat} {ps ks : List Str} {sp : Sp} {BF : FuncData → Prop} {kws : List Keyword} {tk : TA} {p pos : Pos} {nk : Nat}
end
end L2
namespace L2
open PySem
def c1 (n : Int) : Int := if 256 - n < n then 256 - n else n
def costOf (ns : List Int) : Int := (ns.map c1).sum
def costsOf (rs as : List Int) (step : Nat) : List Int := (List.range 5).map fun w => costOf (filt (w : Nat) rs as step)
end L2
namespace L2
open PySem PySem.Spec PyProof.Rows
def pickL {α : Type} (xs : List α) (lo hi st : Option Int) : List α := (sliceRange (sliceBounds lo hi st xs.length).1 (sliceBounds lo hi st xs.length).2.1 (sliceBounds lo hi st xs.length).2.2).filterMap (xs[·]?)
def rSl3 (K : PySem.W.Frag) (x : V) (lo hi st : Option Int) (H : Hp) (Q : VK) : Prop := ∃ a xs, x = .ref a ∧ SqL K H a xs ∧ st ≠ some 0 ∧ ∀ p, H p = none → Q (.ref p) (upd H p (.lst (pickL xs lo hi st)))
def tSl3 (K : PySem.W.Frag) (te : TE) (tl th ts : TO) : TE := fun σ H Q => te σ H fun x H1 => tl σ H1 fun l H2 => th σ H2 fun u H3 => ts σ H3 fun c H4 => rSl3 K x l u c H4 Q
theorem sl3 {K : PySem.W.Frag} {H : Hp} {Q : VK} {p : Addr} {xs : List V} {lo hi st : Option Int} (h : SqL K H p xs) (h0 : st ≠ some 0) (q : ∀ l, H l = none → Q (.ref l) (upd H l (.lst (pickL xs lo hi st)))) : rSl3 K (.ref p) lo hi st H Q := ⟨p, xs, rfl, h, h0, q⟩
def rIsB : R2 := fun x y H Q => ∃ b c, x = .bl b ∧ y = .bl c ∧ Q (.bl (b == c)) H
def rIsNotB : R2 := fun x y H Q => ∃ b c, x = .bl b ∧ y = .bl c ∧ Q (.bl (b != c)) H
end L2

namespace L2
open PySem
def IsCh (ns : List Int) (j : Nat) : Prop := ∃ m : Int, ns[j]? = some m ∧ (∀ y ∈ ns, m ≤ y) ∧ ∀ i : Nat, i < j → ns[i]? ≠ some m
theorem IsCh.uniq {ns : List Int} {j k : Nat} (h : IsCh ns j) (g : IsCh ns k) : j = k := by
  obtain ⟨m, h1, h2, h3⟩ := h
  obtain ⟨n, g1, g2, g3⟩ := g
  have e : m = n := Int.le_antisymm (h2 n (List.mem_of_getElem? g1)) (g2 m (List.mem_of_getElem? h1))
  subst e
  rcases Nat.lt_trichotomy j k with c | c | c
  · exact absurd h1 (g3 j c)
  · exact c
  · exact absurd g1 (h3 k c)
theorem IsCh.lt {rs as : List Int} {step j : Nat} (h : IsCh (costsOf rs as step) j) : j < 5 := by
  obtain ⟨m, h1, _⟩ := h
  have := (List.getElem?_eq_some_iff.mp h1).1
  unfold costsOf at this
  rw [List.length_map, List.length_range] at this
  exact this
/-- (filter, row) stands at t, the row at a -/
structure ChAt (H : Hp) (t a : Addr) (rs as : List Int) (step j : Nat) : Prop where
  ch : IsCh (costsOf rs as step) j
  tp : H t = some (.tup [.int (j : Nat), .ref a])
  ls : Ints H a (filt (j : Nat) rs as step)
theorem ChAt.same {H H' : Hp} {t a : Addr} {rs as : List Int} {step j : Nat} (h : ChAt H t a rs as step j) (s : Same H H') : ChAt H' t a rs as step j := ⟨h.ch, s _ _ h.tp, s _ _ h.ls⟩
def chD (rs as : List Int) (step j : Nat) : PyData := .tuple [.int (j : Nat), .list ((filt (j : Nat) rs as step).map PyData.int)]
theorem ChAt.dp {K : PySem.W.Frag} {H : Hp} {t a : Addr} {rs as : List Int} {step j : Nat} (h : ChAt H t a rs as step j) : Dp K H (.ref t) (chD rs as step j) :=
  .tup (SqT.of h.tp) (.cons (.int _) (.cons (Ints.dp h.ls) .nil))
end L2

namespace L2
open PySem PySem.Spec PyProof.Rows
def rgV (lo c : Int) (n : Nat) : List V := (List.range n).map fun k : Nat => V.int (lo + (k : Int) * c)
def tLRng3 (ta : TA) : TE := fun σ H Q => ta σ H fun vs H1 => ∃ (i j c : Int) (n : Nat), vs = [.int i, .int j, .int c] ∧ RgC i j c n ∧ n ≤ 1000 ∧ ∀ l, H1 l = none → Q (.ref l) (upd H1 l (.lst (rgV i c n)))
theorem vals_of : ∀ {vs : List V} {us : List Value}, vs.length = us.length → (∀ (i : Nat) (v : V) (u : Value), vs[i]? = some v → us[i]? = some u → RelV v u) → Vals vs us
  | [], [], _, _ => .nil
  | v :: vs, u :: us, hl, h => .cons (h 0 v u rfl rfl) (vals_of (by simpa using hl) fun i v' u' h1 h2 => h (i + 1) v' u' h1 h2)
theorem boot_list9 : bootBuiltins "list" = some (.type "list") := by decide +kernel
/-- a new pair (i, lo + i * c) each -/
def Iec (lo c : Int) (n : Nat) : It := ⟨fun i _ => i < n, fun i H v H' => ∃ T, v = .ref T ∧ H T = none ∧ H' = upd H T (.tup [.int (i : Nat), .int (lo + (i : Nat) * c)]), fun i _ => n ≤ i⟩
def iEnC (ta : TA) : TI := fun σ H R => ta σ H fun vs H1 => ∃ (i j c : Int) (n : Nat), vs = [.int i, .int j, .int c] ∧ RgC i j c n ∧ R (Iec i c n) H1
section
variable {K : PySem.W.Frag} {g : TG} {tb : TS} {D : Ends} {σ : L2.St} {H : Hp} {lo c : Int} {n : Nat}
end
end L2

namespace L2
open PySem PySem.Spec PyProof.Rows
section
variable {K : PySem.W.Frag} {a b : Addr} {xs ys : List V} {g : TG} {tb : TS} {D : Ends} {σ : L2.St} {H : Hp}
theorem FoB.zip (Pv : Nat → L2.St → Hp → Prop) (hlen : xs.length = ys.length) (h0 : Pv 0 σ H) (hl : ∀ i σ H, i ≤ xs.length → Pv i σ H → SqL K H a xs ∧ SqL K H b ys)
    (hs : ∀ i x y σ H T, xs[i]? = some x → ys[i]? = some y → Pv i σ H → H T = none → g (.ref T) σ (upd H T (.tup [x, y])) fun σ2 H2 => tb { D with nx := Pv (i + 1), ct := Pv (i + 1), bk := D.nx } σ2 H2) (hd : ∀ σ H, Pv xs.length σ H → D.nx σ H) : FoB (Itz K a b) g tb D σ H := by
  refine ⟨fun i m σ H => m = xs.length - i ∧ i ≤ xs.length ∧ Pv i σ H, ⟨xs.length, by simp, Nat.zero_le _, h0⟩, ?_⟩
  rintro i m σ H ⟨rfl, hi, p⟩
  obtain ⟨q1, q2⟩ := hl i σ H hi p
  by_cases hlt : i < xs.length
  · refine .inr ⟨⟨xs, ys, xs[i], ys[i]'(by omega), q1, q2, List.getElem?_eq_getElem hlt, List.getElem?_eq_getElem (by omega)⟩, Pv (i + 1), fun σ' H' p' => ⟨xs.length - (i + 1), by omega, rfl, hlt, p'⟩, fun x H' y => ?_⟩
    obtain ⟨T, x, z, rfl, hT, rfl, hx, hz⟩ := y
    exact hs i x z σ H T (hx xs q1) (hz ys q2) p hT
  · have e : i = xs.length := by omega
    subst e
    exact .inl ⟨⟨xs, ys, q1, q2, .inl (Nat.le_refl _)⟩, hd σ H p⟩
end
inductive Pt where
  | b (n : Int)
  | a (far many : Nat)
def vP : Pt → List V
  | .b n => [.str "byte", .int n]
  | .a f m => [.str "again", .int f, .int m]
def dP : Pt → PyData
  | .b n => .tuple [.str "byte", .int n]
  | .a f m => .tuple [.str "again", .int f, .int m]
def stre (ns : List Int) (f : Nat) : Nat → List Int
  | 0 => ns
  | m + 1 => stre ns f m ++ [(stre ns f m).getD ((stre ns f m).length - f) 0]
def ext (ns : List Int) : Pt → List Int
  | .b n => ns ++ [n]
  | .a f m => stre ns f m
def uns (ps : List Pt) : List Int := ps.foldl ext []
def OkP (ns : List Int) : Pt → Prop
  | .b n => 0 ≤ n ∧ n < 256
  | .a f m => 1 ≤ f ∧ f ≤ 64 ∧ f ≤ ns.length ∧ 3 ≤ m ∧ m ≤ 34
def OkS (ps : List Pt) : Prop := ∀ (i : Nat) (p : Pt), ps[i]? = some p → OkP (uns (ps.take i)) p
theorem OkS.nil : OkS [] := fun i p h => by simp at h
theorem OkS.snoc {ps : List Pt} {p : Pt} (h : OkS ps) (g : OkP (uns ps) p) : OkS (ps ++ [p]) := by
  intro i q e
  rcases Nat.lt_trichotomy i ps.length with hi | hi | hi
  · rw [List.getElem?_append_left hi] at e
    rw [List.take_append_of_le_length (Nat.le_of_lt hi)]
    exact h i q e
  · subst hi
    rw [List.getElem?_append_right (Nat.le_refl _), Nat.sub_self] at e
    cases e
    rw [List.take_append_of_le_length (Nat.le_refl _), List.take_length]
    exact g
  · rw [List.getElem?_eq_none (by rw [List.length_append, List.length_singleton]; omega)] at e
    cases e
structure SayAt (H : Hp) (a : Addr) (ts : List Addr) (ps : List Pt) : Prop where
  ls : H a = some (.lst (ts.map V.ref))
  ln : ts.length = ps.length
  at' : ∀ (i : Nat) (t : Addr) (p : Pt), ts[i]? = some t → ps[i]? = some p → H t = some (.tup (vP p))
theorem SayAt.same {H H' : Hp} {a : Addr} {ts : List Addr} {ps : List Pt} (h : SayAt H a ts ps) (s : Same H H') : SayAt H' a ts ps :=
  ⟨s _ _ h.ls, h.ln, fun i t p e1 e2 => s _ _ (h.at' i t p e1 e2)⟩
theorem SayAt.nil {H : Hp} {a : Addr} (h : H a = some (.lst [])) : SayAt H a [] [] := ⟨h, rfl, fun i t p e => absurd e (by simp)⟩
theorem SayAt.keep {H H' : Hp} {a p : Addr} {ts : List Addr} {ps : List Pt} {zs : List V} (h : SayAt H a ts ps) (k : Keep p H H') (n : a ≠ p) (hp : H p = some (.lst zs)) : SayAt H' a ts ps :=
  ⟨k _ _ h.ls n, h.ln, fun i t q e1 e2 => by
    have := h.at' i t q e1 e2
    exact k _ _ this (ne_of this hp (by intro z; cases z))⟩
theorem SayAt.push {H : Hp} {a t : Addr} {ts : List Addr} {ps : List Pt} {p : Pt} (h : SayAt H a ts ps) (ht : H t = some (.tup (vP p))) :
    SayAt (upd H a (.lst (ts.map V.ref ++ [.ref t]))) a (ts ++ [t]) (ps ++ [p]) := by
  have ntup : ∀ {r : Addr} {ys : List V}, H r = some (.tup ys) → r ≠ a := fun e => ne_of e h.ls (by intro z; cases z)
  have hln := h.ln
  refine ⟨by rw [upd_same, List.map_append]; rfl, by rw [List.length_append, List.length_append, hln]; rfl, fun i t' q e1 e2 => ?_⟩
  rcases Nat.lt_or_ge i ts.length with hi | hi
  · rw [List.getElem?_append_left hi] at e1
    rw [List.getElem?_append_left (by omega)] at e2
    have g := h.at' i t' q e1 e2
    rw [upd_ne (ntup g)]; exact g
  · rw [List.getElem?_append_right hi] at e1
    rw [List.getElem?_append_right (by omega), ← hln] at e2
    rcases hj : i - ts.length with _ | j
    · rw [hj] at e1 e2
      cases e1; cases e2
      rw [upd_ne (ntup ht)]; exact ht
    · rw [hj] at e1
      simp at e1
theorem dp_part {K : PySem.W.Frag} {H : Hp} {t : Addr} {p : Pt} (h : H t = some (.tup (vP p))) : Dp K H (.ref t) (dP p) := by
  cases p with
  | b n => exact .tup (SqT.of h) (.cons (.str _) (.cons (.int _) .nil))
  | a f m => exact .tup (SqT.of h) (.cons (.str _) (.cons (.int _) (.cons (.int _) .nil)))
theorem dpAll_of {K : PySem.W.Frag} {H : Hp} : ∀ {vs : List V} {ds : List PyData}, vs.length = ds.length → (∀ (i : Nat) (v : V) (d : PyData), vs[i]? = some v → ds[i]? = some d → Dp K H v d) → DpAll K H vs ds
  | [], [], _, _ => .nil
  | v :: vs, d :: ds, hl, h => .cons (h 0 v d rfl rfl) (dpAll_of (by simpa using hl) fun i x y e1 e2 => h (i + 1) x y (by simpa using e1) (by simpa using e2))
theorem SayAt.dp {K : PySem.W.Frag} {H : Hp} {a : Addr} {ts : List Addr} {ps : List Pt} (h : SayAt H a ts ps) : Dp K H (.ref a) (.list (ps.map dP)) := by
  refine .lst (SqL.of h.ls) (dpAll_of (by rw [List.length_map, List.length_map, h.ln]) fun i v d e1 e2 => ?_)
  rw [List.getElem?_map] at e1 e2
  obtain ⟨t, g1, rfl⟩ := Option.map_eq_some_iff.mp e1
  obtain ⟨p, g2, rfl⟩ := Option.map_eq_some_iff.mp e2
  exact dp_part (h.at' i t p g1 g2)
theorem PenAt.lst {H : Hp} {p q : Addr} {n : Nat} (h : PenAt H p q n) : ∃ zs, H p = some (.lst zs) := by
  obtain ⟨ns, a, g, h1, _⟩ := h.ex
  exact ⟨_, h1⟩
theorem SayAt.other {H : Hp} {a b : Addr} {ts : List Addr} {ps : List Pt} {zs : List V} {o : HO} (h : SayAt H a ts ps) (n : b ≠ a) (hb : H b = some (.lst zs)) : SayAt (upd H b o) a ts ps :=
  ⟨by rw [upd_ne n.symm]; exact h.ls, h.ln, fun i t q e1 e2 => by
    have := h.at' i t q e1 e2
    rw [upd_ne (ne_of this hb (by intro z; cases z))]; exact this⟩
end L2

namespace L2
open PySem PySem.Spec PyProof.Rows
/-- a dict of numbers, by numbers and texts -/
def kyD : Key → PyData
  | .inl i => .int i
  | .inr x => .str x
def dk (o : List (Key × Int)) : List (Key × V) := o.map fun p => (p.1, .int p.2)
def dd (o : List (Key × Int)) : List (PyData × PyData) := o.map fun p => (kyD p.1, .int p.2)
mutual
inductive Dq (K : PySem.W.Frag) (F : Hp) : V → PyData → Prop
  | non : Dq K F .non .none
  | bl (b : Bool) : Dq K F (.bl b) (.bool b)
  | int (i : Int) : Dq K F (.int i) (.int i)
  | str (x : Str) : Dq K F (.str x) (.str x)
  | lst {a : Addr} {xs : List V} {ds : List PyData} : F a = some (.lst xs) → DqAll K F xs ds → Dq K F (.ref a) (.list ds)
  | tup {a : Addr} {xs : List V} {ds : List PyData} : F a = some (.tup xs) → DqAll K F xs ds → Dq K F (.ref a) (.tuple ds)
  | dic {a : Addr} {o : List (Key × Int)} : F a = some (.dK (dk o)) → Dq K F (.ref a) (.dict (dd o))
inductive DqAll (K : PySem.W.Frag) (F : Hp) : List V → List PyData → Prop
  | nil : DqAll K F [] []
  | cons {v : V} {vs : List V} {d : PyData} {ds : List PyData} : Dq K F v d → DqAll K F vs ds → DqAll K F (v :: vs) (d :: ds)
end
section
variable {K : PySem.W.Frag} {F F' H : Hp}
mutual
theorem Dq.same (s : Same F F') : ∀ (d : PyData) (v : V), Dq K F v d → Dq K F' v d
  | .none, _, h => by cases h; exact .non
  | .bool b, _, h => by cases h; exact .bl b
  | .int i, _, h => by cases h; exact .int i
  | .str x, _, h => by cases h; exact .str x
  | .list ds, _, h => by
    cases h with
    | lst hs ha => exact .lst (s _ _ hs) (DqAll.same s ds _ ha)
  | .tuple ds, _, h => by
    cases h with
    | tup hs ha => exact .tup (s _ _ hs) (DqAll.same s ds _ ha)
  | .dict _, _, h => by
    cases h with
    | dic hs => exact .dic (s _ _ hs)
theorem DqAll.same (s : Same F F') : ∀ (ds : List PyData) (vs : List V), DqAll K F vs ds → DqAll K F' vs ds
  | [], _, h => by cases h; exact .nil
  | d :: ds, _, h => by
    cases h with
    | cons h1 h2 => exact .cons (Dq.same s d _ h1) (DqAll.same s ds _ h2)
end
mutual
theorem Dq.dp (s : Same F H) : ∀ (d : PyData) (v : V), d.canLay0 = true → Dq K F v d → Dp K H v d
  | .none, _, _, h => by cases h; exact .non
  | .bool b, _, _, h => by cases h; exact .bl b
  | .int i, _, _, h => by cases h; exact .int i
  | .str x, _, _, h => by cases h; exact .str x
  | .list ds, _, c, h => by
    cases h with
    | lst hs ha => exact .lst (SqL.of (s _ _ hs)) (DqAll.dp s ds _ (by rw [PyData.canLay0] at c; exact c) ha)
  | .tuple ds, _, c, h => by
    cases h with
    | tup hs ha => exact .tup (SqT.of (s _ _ hs)) (DqAll.dp s ds _ (by rw [PyData.canLay0] at c; exact c) ha)
  | .dict kvs, _, c, h => by
    have := PyData.hasDict_of_canLay _ c
    simp [PyData.hasDict] at this
theorem DqAll.dp (s : Same F H) : ∀ (ds : List PyData) (vs : List V), PyData.canLayAll0 ds = true → DqAll K F vs ds → DpAll K H vs ds
  | [], _, _, h => by cases h; exact .nil
  | d :: ds, _, c, h => by
    rw [PyData.canLayAll0, Bool.and_eq_true] at c
    cases h with
    | cons h1 h2 => exact .cons (Dq.dp s d _ c.1 h1) (DqAll.dp s ds _ c.2 h2)
end
end
inductive DV where
  | d (x : PyData) | r (a : Addr) | pen | ty (T : String) | tv (vs : List V) | ex (c : Str) (fs : List (Str × Int)) | fn (n : Str)
inductive MO where
  | own (xs : List DV) | fz (ds : List PyData) | dc (o : HO) | bx (P : PySem.W.Frag → List V → HO → Prop) (xs : List DV)
structure Mu where
  n : Nat
  o : Addr → Option MO
def Mu.put (μ : Mu) (a : Addr) (x : MO) : Mu := ⟨μ.n, fun b => if b = a then some x else μ.o b⟩
def Mu.at (μ : Mu) (m : Nat) : Mu := ⟨m, μ.o⟩
theorem Mu.put_n {μ : Mu} {a : Addr} {x : MO} : (μ.put a x).n = μ.n := rfl
theorem Mu.at_n {μ : Mu} {m : Nat} : (μ.at m).n = m := rfl
theorem Mu.at_o {μ : Mu} {m : Nat} : (μ.at m).o = μ.o := rfl
theorem Mu.at_at {μ : Mu} {m k : Nat} : (μ.at m).at k = μ.at k := rfl
theorem Mu.at_put {μ : Mu} {m : Nat} {a : Addr} {x : MO} : (μ.put a x).at m = (μ.at m).put a x := rfl
theorem Mu.put_same {μ : Mu} {a : Addr} {x : MO} : (μ.put a x).o a = some x := if_pos rfl
theorem Mu.put_ne {μ : Mu} {a b : Addr} {x : MO} (h : b ≠ a) : (μ.put a x).o b = μ.o b := if_neg h
theorem Mu.put_put {μ : Mu} {a : Addr} {x y : MO} : (μ.put a x).put a y = μ.put a y := by
  unfold Mu.put
  congr 1
  funext b
  by_cases h : b = a
  · simp [h]
  · simp [h]
/-- an exception's object: its class, its dict -/
def ExO (a C : Addr) (dx : Option Addr) : Heap → Prop := fun h => ∃ ob vs, h.get? a = some ob ∧ ob.cls = .ref C ∧ ob.dict = dx ∧ ob.data = .fields vs
/-- .. and its numbers -/
def ExF (F : Hp) (dx : Option Addr) (fs : List (Str × Int)) : Prop := match dx with
  | none => fs = []
  | some d => F d = some (.xd (fs.map fun q => (q.1, .int q.2)))
theorem ExF.same {F F' : Hp} (s : Same F F') {dx : Option Addr} {fs : List (Str × Int)} (h : ExF F dx fs) : ExF F' dx fs := by
  cases dx with
  | none => exact h
  | some d => exact s _ _ h
def RV (K : PySem.W.Frag) (p : Addr) (F : Hp) : V → DV → Prop
  | v, .d x => Dq K F v x
  | v, .r a => v = .ref a
  | v, .pen => v = .ref p
  | v, .ty T => v = .ty T
  | v, .tv vs => ∃ a, v = .ref a ∧ F a = some (.tup vs)
  | v, .ex c fs => ∃ a C dx, v = .ref a ∧ PySem.W.nsIn K mainGlobals c = some (some (.ref C)) ∧ F a = some (.ext (ExO a C dx)) ∧ ExF F dx fs
  | v, .fn n => ∃ a, v = .ref a ∧ PySem.W.nsIn K mainGlobals n = some (some (.ref a))
abbrev RVs (K : PySem.W.Frag) (p : Addr) (F : Hp) : List V → List DV → Prop := Paired (RV K p F)
theorem Paired.mono {α β : Type} {P Q : α → β → Prop} (h : ∀ a b, P a b → Q a b) : ∀ {xs : List α} {ys : List β}, Paired P xs ys → Paired Q xs ys
  | _, _, .nil => .nil
  | _, _, .cons a b => .cons (h _ _ a) (Paired.mono h b)
theorem Paired.len {α β : Type} {P : α → β → Prop} : ∀ {xs : List α} {ys : List β}, Paired P xs ys → xs.length = ys.length
  | _, _, .nil => rfl
  | _, _, .cons _ b => by rw [List.length_cons, List.length_cons, Paired.len b]
theorem Paired.app {α β : Type} {P : α → β → Prop} : ∀ {xs us : List α} {ys ws : List β}, Paired P xs ys → Paired P us ws → Paired P (xs ++ us) (ys ++ ws)
  | _, _, _, _, .nil, h => h
  | _, _, _, _, .cons a b, h => .cons a (Paired.app b h)
theorem Paired.drop {α β : Type} {P : α → β → Prop} : ∀ (n : Nat) {xs : List α} {ys : List β}, Paired P xs ys → Paired P (xs.drop n) (ys.drop n)
  | 0, _, _, h => h
  | _ + 1, _, _, .nil => .nil
  | n + 1, _, _, .cons _ b => Paired.drop n b
theorem Paired.take {α β : Type} {P : α → β → Prop} : ∀ (n : Nat) {xs : List α} {ys : List β}, Paired P xs ys → Paired P (xs.take n) (ys.take n)
  | 0, _, _, _ => .nil
  | _ + 1, _, _, .nil => .nil
  | n + 1, _, _, .cons a b => .cons a (Paired.take n b)
theorem Paired.set' {α β : Type} {P : α → β → Prop} {a : α} {b : β} (h : P a b) : ∀ (n : Nat) {xs : List α} {ys : List β}, Paired P xs ys → Paired P (xs.set n a) (ys.set n b)
  | _, _, _, .nil => .nil
  | 0, _, _, .cons _ t => .cons h t
  | n + 1, _, _, .cons x t => .cons x (Paired.set' h n t)
theorem Paired.at {α β : Type} {P : α → β → Prop} : ∀ {xs : List α} {ys : List β} {i : Nat} {y : β}, Paired P xs ys → ys[i]? = some y → ∃ x, xs[i]? = some x ∧ P x y
  | _, _, i, y, .nil, h => by simp at h
  | _, _, 0, y, .cons a b, h => by simp at h; subst h; exact ⟨_, rfl, a⟩
  | _, _, i + 1, y, .cons a b, h => by
    obtain ⟨x, h1, h2⟩ := Paired.at (i := i) b (by simpa using h)
    exact ⟨x, by simpa using h1, h2⟩
section
variable {K : PySem.W.Frag} {p : Addr} {F F' : Hp}
theorem RV.same (s : Same F F') : ∀ {v : V} {x : DV}, RV K p F v x → RV K p F' v x
  | _, .d _, h => Dq.same s _ _ h
  | _, .r _, h => h
  | _, .pen, h => h
  | _, .ty _, h => h
  | _, .tv _, h => by obtain ⟨a, e, h⟩ := h; exact ⟨a, e, s _ _ h⟩
  | _, .ex _ _, h => by obtain ⟨a, C, dx, e, h1, h2, h3⟩ := h; exact ⟨a, C, dx, e, h1, s _ _ h2, h3.same s⟩
  | _, .fn _, h => h
theorem RVs.same (s : Same F F') {vs : List V} {xs : List DV} (h : RVs K p F vs xs) : RVs K p F' vs xs := Paired.mono (fun _ _ => RV.same s) h
theorem RVs.all : ∀ {vs : List V} {ds : List PyData}, RVs K p F vs (ds.map DV.d) → DqAll K F vs ds
  | _, [], h => by cases h; exact .nil
  | _, d :: ds, h => by
    cases h with
    | cons a b => exact .cons a (RVs.all b)
theorem DqAll.rvs : ∀ {vs : List V} {ds : List PyData}, DqAll K F vs ds → RVs K p F vs (ds.map DV.d)
  | _, [], h => by cases h; exact .nil
  | _, d :: ds, h => by
    cases h with
    | cons a b => exact .cons a (DqAll.rvs b)
end
def unD : List DV → Option (List PyData)
  | [] => some []
  | .d x :: r => (unD r).map (x :: ·)
  | _ :: _ => none
theorem unD_nil : unD [] = some [] := rfl
theorem unD_cons {x : PyData} {r : List DV} : unD (.d x :: r) = (unD r).map (x :: ·) := rfl
theorem unD_map : ∀ ds : List PyData, unD (ds.map DV.d) = some ds
  | [] => rfl
  | d :: ds => by rw [List.map_cons, unD_cons, unD_map ds]; rfl
theorem unD_some : ∀ {xs : List DV} {ds : List PyData}, unD xs = some ds → xs = ds.map DV.d
  | [], ds, h => by cases h; rfl
  | .d x :: r, ds, h => by
    rw [unD_cons] at h
    obtain ⟨es, h1, rfl⟩ := Option.map_eq_some_iff.mp h
    rw [unD_some h1]; rfl
  | .r _ :: _, _, h => by cases h
  | .pen :: _, _, h => by cases h
  | .ty _ :: _, _, h => by cases h
  | .tv _ :: _, _, h => by cases h
  | .ex _ _ :: _, _, h => by cases h
  | .fn _ :: _, _, h => by cases h
/-- the items of a list -/
def its (μ : Mu) : DV → Option (List DV)
  | .d (.list ds) => some (ds.map .d)
  | .r a => match μ.o a with
    | some (.own xs) => some xs
    | some (.fz ds) => some (ds.map .d)
    | some (.dc _) => none
    | some (.bx _ _) => none
    | none => none
  | _ => none
/-- the data of a value -/
def dat (μ : Mu) : DV → Option PyData
  | .d x => some x
  | .r a => match μ.o a with
    | some (.own xs) => (unD xs).map .list
    | some (.fz ds) => some (.list ds)
    | some (.dc _) => none
    | some (.bx _ _) => none
    | none => none
  | _ => none
theorem its_d {μ : Mu} {ds : List PyData} : its μ (.d (.list ds)) = some (ds.map .d) := rfl
theorem its_own {μ : Mu} {a : Addr} {xs : List DV} (h : μ.o a = some (.own xs)) : its μ (.r a) = some xs := by simp only [its, h]
theorem its_fz {μ : Mu} {a : Addr} {ds : List PyData} (h : μ.o a = some (.fz ds)) : its μ (.r a) = some (ds.map .d) := by simp only [its, h]
theorem dat_d {μ : Mu} {x : PyData} : dat μ (.d x) = some x := rfl
theorem dat_fz {μ : Mu} {a : Addr} {ds : List PyData} (h : μ.o a = some (.fz ds)) : dat μ (.r a) = some (.list ds) := by simp only [dat, h]
structure Sub (μ' μ : Mu) : Prop where
  n : μ'.n = μ.n
  o : ∀ a x, μ'.o a = some x → μ.o a = some x
theorem Sub.refl {μ : Mu} : Sub μ μ := ⟨rfl, fun _ _ h => h⟩
theorem Sub.put {μ' μ : Mu} {l : Addr} {x : MO} (s : Sub μ' μ) (h : μ'.o l = none) : Sub μ' (μ.put l x) := ⟨s.n, fun a y e => by rw [Mu.put_ne (by rintro rfl; rw [h] at e; cases e)]; exact s.o a y e⟩
theorem Sub.at {μ' μ : Mu} {m : Nat} (s : Sub μ' μ) : Sub (μ'.at m) (μ.at m) := ⟨rfl, s.o⟩
structure Rp (K : PySem.W.Frag) (p q : Addr) (Z : Hp) (μ : Mu) (F H : Hp) : Prop where
  fs : Same F H
  zs : Same Z H
  zf : ∀ a o, Z a = some o → F a = none ∧ μ.o a = none ∧ a ≠ p ∧ a ≠ q
  ow : ∀ a xs, μ.o a = some (.own xs) → F a = none ∧ a ≠ p ∧ a ≠ q ∧ ∃ vs, H a = some (.lst vs) ∧ RVs K p F vs xs
  fz : ∀ a ds, μ.o a = some (.fz ds) → ∃ vs, F a = some (.lst vs) ∧ DqAll K F vs ds
  pn : PenAt H p q μ.n
  fp : F p = none
  fq : F q = none
  dc : ∀ a o, μ.o a = some (.dc o) → F a = none ∧ a ≠ p ∧ a ≠ q ∧ H a = some o
  bx : ∀ a P xs, μ.o a = some (.bx P xs) → F a = none ∧ a ≠ p ∧ a ≠ q ∧ ∃ vs o, H a = some o ∧ P K vs o ∧ RVs K p F vs xs
section
variable {K : PySem.W.Frag} {p q : Addr} {Z : Hp} {μ : Mu} {F H : Hp}
theorem Rp.sub {μ' : Mu} (r : Rp K p q Z μ F H) (s : Sub μ' μ) : Rp K p q Z μ' F H := by
  refine ⟨r.fs, r.zs, fun a o e => ?_, fun a xs e => r.ow a xs (s.o _ _ e), fun a ds e => r.fz a ds (s.o _ _ e), by rw [s.n]; exact r.pn, r.fp, r.fq, fun a o e => r.dc a o (s.o _ _ e), fun a P xs e => r.bx a P xs (s.o _ _ e)⟩
  obtain ⟨h1, h2, h3⟩ := r.zf a o e
  refine ⟨h1, ?_, h3⟩
  cases m : μ'.o a with
  | none => rfl
  | some x => rw [s.o _ _ m] at h2; cases h2
theorem Rp.hp (r : Rp K p q Z μ F H) : ∃ zs, H p = some (.lst zs) := r.pn.lst
theorem Rp.hq (r : Rp K p q Z μ F H) : ∃ zs, H q = some (.lst zs) := by
  obtain ⟨ns, a, g, h1, h2, _⟩ := r.pn.ex
  exact ⟨_, h2⟩
theorem Rp.op (r : Rp K p q Z μ F H) : μ.o p = none := by
  cases e : μ.o p with
  | none => rfl
  | some m =>
    cases m with
    | dc o => exact absurd rfl (r.dc _ _ e).2.1
    | bx P xs => exact absurd rfl (r.bx _ _ _ e).2.1
    | own xs => exact absurd rfl (r.ow _ _ e).2.1
    | fz ds =>
      obtain ⟨vs, h, _⟩ := r.fz _ _ e
      rw [r.fp] at h; cases h
theorem Rp.free (r : Rp K p q Z μ F H) {l : Addr} (h : H l = none) : μ.o l = none ∧ F l = none ∧ Z l = none ∧ l ≠ p ∧ l ≠ q := by
  refine ⟨?_, r.fs.free h, r.zs.free h, r.pn.ne h, r.pn.neq h⟩
  cases e : μ.o l with
  | none => rfl
  | some m =>
    cases m with
    | dc o =>
      obtain ⟨_, _, _, h1⟩ := r.dc _ _ e
      rw [h] at h1; cases h1
    | bx P xs =>
      obtain ⟨_, _, _, vs, o, h1, _⟩ := r.bx _ _ _ e
      rw [h] at h1; cases h1
    | own xs =>
      obtain ⟨_, _, _, vs, h1, _⟩ := r.ow _ _ e
      rw [h] at h1; cases h1
    | fz ds =>
      obtain ⟨vs, h1, _⟩ := r.fz _ _ e
      rw [r.fs.free h] at h1; cases h1
/-- something new that stays -/
theorem Rp.newF (r : Rp K p q Z μ F H) {t : Addr} {o : HO} (h : H t = none) : Rp K p q Z μ (upd F t o) (upd H t o) ∧ Same F (upd F t o) := by
  obtain ⟨f1, f2, f3, f4, f5⟩ := r.free h
  have sF : Same F (upd F t o) := Same.upd f2
  refine ⟨⟨fun b u e => ?_, fun b u e => Same.upd h _ _ (r.zs _ _ e), fun a u e => ?_, fun a xs e => ?_, fun a ds e => ?_, r.pn.same (Same.upd h), by rw [upd_ne f4.symm]; exact r.fp, by rw [upd_ne f5.symm]; exact r.fq, fun a u e => (by obtain ⟨g1, g2, g3, g4⟩ := r.dc a u e; exact ⟨by rw [upd_ne (ne_of_none g4 h)]; exact g1, g2, g3, Same.upd h _ _ g4⟩), fun a P xs e => (by obtain ⟨g1, g2, g3, vs, o', g4, gp, g5⟩ := r.bx a P xs e; exact ⟨by rw [upd_ne (ne_of_none g4 h)]; exact g1, g2, g3, vs, o', Same.upd h _ _ g4, gp, RVs.same sF g5⟩)⟩, sF⟩
  · by_cases hb : b = t
    · subst hb; rw [upd_same] at e ⊢; exact e
    · rw [upd_ne hb] at e ⊢; exact r.fs _ _ e
  · obtain ⟨g1, g2⟩ := r.zf a u e
    refine ⟨?_, g2⟩
    rw [upd_ne (ne_of_none e f3)]; exact g1
  · obtain ⟨g1, g2, g3, vs, g4, g5⟩ := r.ow a xs e
    refine ⟨by rw [upd_ne (ne_of_none g4 h)]; exact g1, g2, g3, vs, Same.upd h _ _ g4, RVs.same sF g5⟩
  · obtain ⟨vs, g1, g2⟩ := r.fz a ds e
    exact ⟨vs, sF _ _ g1, DqAll.same sF _ _ g2⟩
/-- a new list of one's own -/
theorem Rp.newO (r : Rp K p q Z μ F H) {l : Addr} {vs : List V} {xs : List DV} (h : H l = none) (hv : RVs K p F vs xs) : Rp K p q Z (μ.put l (.own xs)) F (upd H l (.lst vs)) := by
  obtain ⟨f1, f2, f3, f4, f5⟩ := r.free h
  refine ⟨fun b u e => Same.upd h _ _ (r.fs _ _ e), fun b u e => Same.upd h _ _ (r.zs _ _ e), fun a u e => ?_, fun a ys e => ?_, fun a ds e => ?_, r.pn.same (Same.upd h), r.fp, r.fq, fun a u e => (by
    by_cases hb : a = l
    · subst hb; rw [Mu.put_same] at e; cases e
    · rw [Mu.put_ne hb] at e
      obtain ⟨g1, g2, g3, g4⟩ := r.dc a u e
      exact ⟨g1, g2, g3, by rw [upd_ne hb]; exact g4⟩), fun a P xs e => (by
    by_cases hb : a = l
    · subst hb; rw [Mu.put_same] at e; cases e
    · rw [Mu.put_ne hb] at e
      obtain ⟨g1, g2, g3, vs, o', g4, gp, g5⟩ := r.bx a P xs e
      exact ⟨g1, g2, g3, vs, o', by rw [upd_ne hb]; exact g4, gp, g5⟩)⟩
  · obtain ⟨g1, g2, g3⟩ := r.zf a u e
    exact ⟨g1, by rw [Mu.put_ne (ne_of_none e f3)]; exact g2, g3⟩
  · by_cases hb : a = l
    · subst hb
      rw [Mu.put_same] at e
      cases e
      exact ⟨f2, f4, f5, vs, upd_same, hv⟩
    · rw [Mu.put_ne hb] at e
      obtain ⟨g1, g2, g3, ws, g4, g5⟩ := r.ow a ys e
      exact ⟨g1, g2, g3, ws, by rw [upd_ne hb]; exact g4, g5⟩
  · by_cases hb : a = l
    · subst hb; rw [Mu.put_same] at e; cases e
    · rw [Mu.put_ne hb] at e
      exact r.fz a ds e
/-- one's own list is changed -/
theorem Rp.setO (r : Rp K p q Z μ F H) {l : Addr} {ws : List V} {xs ys : List DV} (h : μ.o l = some (.own xs)) (hv : RVs K p F ws ys) : Rp K p q Z (μ.put l (.own ys)) F (upd H l (.lst ws)) := by
  obtain ⟨f1, f2, f3, us, f4, f5⟩ := r.ow _ _ h
  refine ⟨fun b u e => ?_, fun b u e => ?_, fun a u e => ?_, fun a zs e => ?_, fun a ds e => ?_, r.pn.other f2 f3, r.fp, r.fq, fun a u e => (by
    by_cases hb : a = l
    · subst hb; rw [Mu.put_same] at e; cases e
    · rw [Mu.put_ne hb] at e
      obtain ⟨g1, g2, g3, g4⟩ := r.dc a u e
      exact ⟨g1, g2, g3, by rw [upd_ne hb]; exact g4⟩), fun a P xs e => (by
    by_cases hb : a = l
    · subst hb; rw [Mu.put_same] at e; cases e
    · rw [Mu.put_ne hb] at e
      obtain ⟨g1, g2, g3, vs, o', g4, gp, g5⟩ := r.bx a P xs e
      exact ⟨g1, g2, g3, vs, o', by rw [upd_ne hb]; exact g4, gp, g5⟩)⟩
  · rw [upd_ne (by rintro rfl; rw [f1] at e; cases e)]; exact r.fs _ _ e
  · rw [upd_ne (by rintro rfl; have := (r.zf _ _ e).2.1; rw [h] at this; cases this)]; exact r.zs _ _ e
  · obtain ⟨g1, g2, g3⟩ := r.zf a u e
    exact ⟨g1, by rw [Mu.put_ne (by rintro rfl; rw [h] at g2; cases g2)]; exact g2, g3⟩
  · by_cases hb : a = l
    · subst hb
      rw [Mu.put_same] at e
      cases e
      exact ⟨f1, f2, f3, ws, upd_same, hv⟩
    · rw [Mu.put_ne hb] at e
      obtain ⟨g1, g2, g3, vs, g4, g5⟩ := r.ow a zs e
      exact ⟨g1, g2, g3, vs, by rw [upd_ne hb]; exact g4, g5⟩
  · by_cases hb : a = l
    · subst hb; rw [Mu.put_same] at e; cases e
    · rw [Mu.put_ne hb] at e
      exact r.fz a ds e
/-- one's own list stays from now on -/
theorem Rp.freeze (r : Rp K p q Z μ F H) {l : Addr} {ds : List PyData} (h : μ.o l = some (.own (ds.map .d))) : ∃ F', Same F F' ∧ Rp K p q Z (μ.put l (.fz ds)) F' H ∧ Dq K F' (.ref l) (.list ds) := by
  obtain ⟨f1, f2, f3, vs, f4, f5⟩ := r.ow _ _ h
  have sF : Same F (upd F l (.lst vs)) := Same.upd f1
  have hq : DqAll K (upd F l (.lst vs)) vs ds := DqAll.same sF _ _ (RVs.all f5)
  refine ⟨upd F l (.lst vs), sF, ⟨fun b u e => ?_, r.zs, fun a u e => ?_, fun a zs e => ?_, fun a es e => ?_, r.pn, by rw [upd_ne f2.symm]; exact r.fp, by rw [upd_ne f3.symm]; exact r.fq, fun a u e => (by
    by_cases hb : a = l
    · subst hb; rw [Mu.put_same] at e; cases e
    · rw [Mu.put_ne hb] at e
      obtain ⟨g1, g2, g3, g4⟩ := r.dc a u e
      exact ⟨by rw [upd_ne hb]; exact g1, g2, g3, g4⟩), fun a P xs e => (by
    by_cases hb : a = l
    · subst hb; rw [Mu.put_same] at e; cases e
    · rw [Mu.put_ne hb] at e
      obtain ⟨g1, g2, g3, vs, o', g4, gp, g5⟩ := r.bx a P xs e
      exact ⟨by rw [upd_ne hb]; exact g1, g2, g3, vs, o', g4, gp, RVs.same sF g5⟩)⟩, .lst upd_same hq⟩
  · by_cases hb : b = l
    · subst hb; rw [upd_same] at e; cases e; exact f4
    · rw [upd_ne hb] at e; exact r.fs _ _ e
  · obtain ⟨g1, g2, g3⟩ := r.zf a u e
    have hn : a ≠ l := by rintro rfl; rw [h] at g2; cases g2
    exact ⟨by rw [upd_ne hn]; exact g1, by rw [Mu.put_ne hn]; exact g2, g3⟩
  · by_cases hb : a = l
    · subst hb; rw [Mu.put_same] at e; cases e
    · rw [Mu.put_ne hb] at e
      obtain ⟨g1, g2, g3, ws, g4, g5⟩ := r.ow a zs e
      exact ⟨by rw [upd_ne hb]; exact g1, g2, g3, ws, g4, RVs.same sF g5⟩
  · by_cases hb : a = l
    · subst hb
      rw [Mu.put_same] at e
      cases e
      exact ⟨vs, upd_same, hq⟩
    · rw [Mu.put_ne hb] at e
      obtain ⟨ws, g1, g2⟩ := r.fz a es e
      exact ⟨ws, sF _ _ g1, DqAll.same sF _ _ g2⟩
/-- the pen has drawn -/
theorem Rp.drawn (r : Rp K p q Z μ F H) {H' : Hp} {m : Nat} (h : PenAt H' p q m) (k : Keep p H H') : Rp K p q Z (μ.at m) F H' := by
  refine ⟨fun b u e => k _ _ (r.fs _ _ e) ?_, fun b u e => k _ _ (r.zs _ _ e) (r.zf _ _ e).2.2.1, r.zf, fun a xs e => ?_, r.fz, h, r.fp, r.fq, fun a u e => (by obtain ⟨g1, g2, g3, g4⟩ := r.dc a u e; exact ⟨g1, g2, g3, k _ _ g4 g2⟩), fun a P xs e => (by obtain ⟨g1, g2, g3, vs, o', g4, gp, g5⟩ := r.bx a P xs e; exact ⟨g1, g2, g3, vs, o', k _ _ g4 g2, gp, g5⟩)⟩
  · rintro rfl; rw [r.fp] at e; cases e
  · obtain ⟨g1, g2, g3, vs, g4, g5⟩ := r.ow a xs e
    exact ⟨g1, g2, g3, vs, k _ _ g4 g2, g5⟩
/-- a frame: a new list that nobody sees -/
theorem Rp.frame (r : Rp K p q Z μ F H) {D : Addr} {vs : List V} (h : H D = none) : Rp K p q (upd Z D (.lst vs)) μ F (upd H D (.lst vs)) := by
  obtain ⟨f1, f2, f3, f4, f5⟩ := r.free h
  have s := Same.upd (o := .lst vs) h
  refine ⟨r.fs.trans s, fun b u e => ?_, fun a u e => ?_, fun a xs e => ?_, r.fz, r.pn.same s, r.fp, r.fq, fun a u e => (by obtain ⟨g1, g2, g3, g4⟩ := r.dc a u e; exact ⟨g1, g2, g3, s _ _ g4⟩), fun a P xs e => (by obtain ⟨g1, g2, g3, vs, o', g4, gp, g5⟩ := r.bx a P xs e; exact ⟨g1, g2, g3, vs, o', s _ _ g4, gp, g5⟩)⟩
  · by_cases hb : b = D
    · subst hb; rw [upd_same] at e ⊢; exact e
    · rw [upd_ne hb] at e ⊢; exact r.zs _ _ e
  · by_cases hb : a = D
    · subst hb; exact ⟨f2, f1, f4, f5⟩
    · rw [upd_ne hb] at e; exact r.zf _ _ e
  · obtain ⟨g1, g2, g3, ws, g4, g5⟩ := r.ow a xs e
    exact ⟨g1, g2, g3, ws, s _ _ g4, g5⟩
theorem Rp.reframe {D : Addr} {us vs : List V} (r : Rp K p q (upd Z D (.lst us)) μ F H) : Rp K p q (upd Z D (.lst vs)) μ F (upd H D (.lst vs)) := by
  obtain ⟨z1, z2, z3, z4⟩ := r.zf D _ upd_same
  refine ⟨fun b u e => ?_, fun b u e => ?_, fun a u e => ?_, fun a xs e => ?_, r.fz, r.pn.other z3 z4, r.fp, r.fq, fun a u e => (by
    obtain ⟨g1, g2, g3, g4⟩ := r.dc a u e
    refine ⟨g1, g2, g3, ?_⟩
    rw [upd_ne (by rintro rfl; rw [z2] at e; cases e)]; exact g4), fun a P xs e => (by
    obtain ⟨g1, g2, g3, vs, o', g4, gp, g5⟩ := r.bx a P xs e
    refine ⟨g1, g2, g3, vs, o', ?_, gp, g5⟩
    rw [upd_ne (by rintro rfl; rw [z2] at e; cases e)]; exact g4)⟩
  · rw [upd_ne (by rintro rfl; rw [z1] at e; cases e)]; exact r.fs _ _ e
  · by_cases hb : b = D
    · subst hb; rw [upd_same] at e ⊢; exact e
    · rw [upd_ne hb] at e ⊢
      exact r.zs _ _ (by rw [upd_ne hb]; exact e)
  · by_cases hb : a = D
    · subst hb; exact ⟨z1, z2, z3, z4⟩
    · rw [upd_ne hb] at e; exact r.zf _ _ (by rw [upd_ne hb]; exact e)
  · obtain ⟨g1, g2, g3, ws, g4, g5⟩ := r.ow a xs e
    refine ⟨g1, g2, g3, ws, ?_, g5⟩
    rw [upd_ne (by rintro rfl; rw [z2] at e; cases e)]; exact g4
theorem Rp.at_frame {D : Addr} {us : List V} (r : Rp K p q (upd Z D (.lst us)) μ F H) : H D = some (.lst us) := r.zs _ _ upd_same
theorem Rp.unframe {D : Addr} {us : List V} (r : Rp K p q (upd Z D (.lst us)) μ F H) (hz : Z D = none) : Rp K p q Z μ F H := 
  ⟨r.fs, fun b u e => r.zs _ _ (by rw [upd_ne (ne_of_none e hz)]; exact e), fun a u e => r.zf _ _ (by rw [upd_ne (ne_of_none e hz)]; exact e), r.ow, r.fz, r.pn, r.fp, r.fq, r.dc, r.bx⟩
/-- the frame's list becomes data -/
theorem Rp.frameF {D : Addr} {us : List V} (r : Rp K p q (upd Z D (.lst us)) μ F H) (hz : Z D = none) : Rp K p q Z μ (upd F D (.lst us)) H ∧ Same F (upd F D (.lst us)) := by
  obtain ⟨z1, z2, z3, z4⟩ := r.zf D _ upd_same
  have sF : Same F (upd F D (.lst us)) := Same.upd z1
  refine ⟨⟨fun b u e => ?_, (r.unframe hz).zs, fun a u e => ?_, fun a xs e => ?_, fun a es e => ?_, r.pn, by rw [upd_ne z3.symm]; exact r.fp, by rw [upd_ne z4.symm]; exact r.fq, fun a u e => (by
    obtain ⟨g1, g2, g3, g4⟩ := r.dc a u e
    exact ⟨by rw [upd_ne (by rintro rfl; rw [z2] at e; cases e)]; exact g1, g2, g3, g4⟩), fun a P xs e => (by
    obtain ⟨g1, g2, g3, vs, o', g4, gp, g5⟩ := r.bx a P xs e
    exact ⟨by rw [upd_ne (by rintro rfl; rw [z2] at e; cases e)]; exact g1, g2, g3, vs, o', g4, gp, RVs.same sF g5⟩)⟩, sF⟩
  · by_cases hb : b = D
    · subst hb; rw [upd_same] at e; cases e; exact r.at_frame
    · rw [upd_ne hb] at e; exact r.fs _ _ e
  · obtain ⟨g1, g2⟩ := (r.unframe hz).zf a u e
    exact ⟨by rw [upd_ne (ne_of_none e hz)]; exact g1, g2⟩
  · obtain ⟨g1, g2, g3, ws, g4, g5⟩ := r.ow a xs e
    exact ⟨by rw [upd_ne (by rintro rfl; rw [z2] at e; cases e)]; exact g1, g2, g3, ws, g4, RVs.same sF g5⟩
  · obtain ⟨ws, g1, g2⟩ := r.fz a es e
    exact ⟨ws, sF _ _ g1, DqAll.same sF _ _ g2⟩
/-- the frame's list becomes one's own -/
theorem Rp.frameO {D : Addr} {us : List V} {xs : List DV} (r : Rp K p q (upd Z D (.lst us)) μ F H) (hz : Z D = none) (hv : RVs K p F us xs) : Rp K p q Z (μ.put D (.own xs)) F H := by
  obtain ⟨z1, z2, z3, z4⟩ := r.zf D _ upd_same
  have r0 := r.unframe hz
  refine ⟨r.fs, r0.zs, fun a u e => ?_, fun a ys e => ?_, fun a ds e => ?_, r.pn, r.fp, r.fq, fun a u e => (by
    by_cases hb : a = D
    · subst hb; rw [Mu.put_same] at e; cases e
    · rw [Mu.put_ne hb] at e; exact r.dc a u e), fun a P xs e => (by
    by_cases hb : a = D
    · subst hb; rw [Mu.put_same] at e; cases e
    · rw [Mu.put_ne hb] at e; exact r.bx a P xs e)⟩
  · obtain ⟨g1, g2, g3⟩ := r0.zf a u e
    exact ⟨g1, by rw [Mu.put_ne (ne_of_none e hz)]; exact g2, g3⟩
  · by_cases hb : a = D
    · subst hb
      rw [Mu.put_same] at e
      cases e
      exact ⟨z1, z3, z4, us, r.at_frame, hv⟩
    · rw [Mu.put_ne hb] at e
      exact r.ow a ys e
  · by_cases hb : a = D
    · subst hb; rw [Mu.put_same] at e; cases e
    · rw [Mu.put_ne hb] at e
      exact r.fz a ds e
theorem Rp.its (r : Rp K p q Z μ F H) {v : V} {x : DV} {xs : List DV} (h : RV K p F v x) (e : its μ x = some xs) : ∃ a vs, v = .ref a ∧ H a = some (.lst vs) ∧ RVs K p F vs xs := by
  cases x with
  | d y =>
    cases y with
    | list ds =>
      cases e
      cases h with
      | lst hs ha => exact ⟨_, _, rfl, r.fs _ _ hs, DqAll.rvs ha⟩
    | _ => cases e
  | r a =>
    cases h
    unfold L2.its at e
    cases m : μ.o a with
    | none => simp only [m] at e; cases e
    | some mo =>
      cases mo with
      | dc o => simp only [m] at e; cases e
      | bx P xs => simp only [m] at e; cases e
      | own ys =>
        simp only [m] at e; cases e
        obtain ⟨_, _, _, vs, h1, h2⟩ := r.ow _ _ m
        exact ⟨a, vs, rfl, h1, h2⟩
      | fz ds =>
        simp only [m] at e; cases e
        obtain ⟨vs, h1, h2⟩ := r.fz _ _ m
        exact ⟨a, vs, rfl, r.fs _ _ h1, DqAll.rvs h2⟩
  | pen => cases e
  | ty T => cases e
  | tv vs => cases e
  | ex c fs => cases e
  | fn n => cases e
theorem Rp.dat (r : Rp K p q Z μ F H) {v : V} {x : DV} {d : PyData} (h : RV K p F v x) (e : dat μ x = some d) (c : d.canLay0 = true) : Dp K H v d := by
  cases x with
  | d y => cases e; exact Dq.dp r.fs _ _ c h
  | r a =>
    cases h
    unfold L2.dat at e
    cases m : μ.o a with
    | none => simp only [m] at e; cases e
    | some mo =>
      cases mo with
      | dc o => simp only [m] at e; cases e
      | bx P xs => simp only [m] at e; cases e
      | own ys =>
        simp only [m] at e
        obtain ⟨ds, h1, rfl⟩ := Option.map_eq_some_iff.mp e
        obtain ⟨_, _, _, vs, h2, h3⟩ := r.ow _ _ m
        rw [unD_some h1] at h3
        exact .lst (SqL.of h2) (DqAll.dp r.fs _ _ (by rw [PyData.canLay0] at c; exact c) (RVs.all h3))
      | fz ds =>
        simp only [m] at e; cases e
        obtain ⟨vs, h1, h2⟩ := r.fz _ _ m
        exact .lst (SqL.of (r.fs _ _ h1)) (DqAll.dp r.fs _ _ (by rw [PyData.canLay0] at c; exact c) h2)
  | pen => cases e
  | ty T => cases e
  | tv vs => cases e
  | ex c fs => cases e
  | fn n => cases e
end
end L2

namespace L2
open PySem PySem.Spec PyProof.Rows
abbrev DQ := DV → Mu → Prop
abbrev DSt := List (Option DV)
abbrev DE := DSt → Mu → DQ → Prop
abbrev DT := DSt → Mu → (Bool → Mu → Prop) → Prop
abbrev DA := DSt → Mu → (List DV → Mu → Prop) → Prop
abbrev DO := DSt → Mu → (Option Int → Mu → Prop) → Prop
structure DEnds where
  nx : DSt → Mu → Prop
  rt : DQ
  bk : DSt → Mu → Prop := fun _ _ => False
  ct : DSt → Mu → Prop := fun _ _ => False
abbrev DS := DEnds → DSt → Mu → Prop
abbrev DG := DV → DSt → Mu → (DSt → Mu → Prop) → Prop
abbrev DGs := List DV → DSt → Mu → (DSt → Mu → Prop) → Prop
abbrev DI := DSt → Mu → (List DV → Mu → Prop) → Prop
abbrev DSp := List DV → Mu → DQ → Prop
abbrev DR2 := DV → DV → Mu → DQ → Prop
abbrev DR1 := List DV → Mu → DQ → Prop
def RC (K : PySem.W.Frag) (p : Addr) (F : Hp) (o : Option V) (c : Option DV) : Prop := c = none ∨ ∃ v x, o = some v ∧ c = some x ∧ RV K p F v x
abbrev RS (K : PySem.W.Frag) (p : Addr) (F : Hp) : St → DSt → Prop := Paired (RC K p F)
theorem RS.same {K : PySem.W.Frag} {p : Addr} {F F' : Hp} (s : Same F F') {σ : St} {δ : DSt} (h : RS K p F σ δ) : RS K p F' σ δ :=
  Paired.mono (fun _ _ h => h.imp id fun ⟨v, x, a, b, c⟩ => ⟨v, x, a, b, RV.same s c⟩) h
def Lf (K : PySem.W.Frag) (p q : Addr) (Z F : Hp) (QD : DQ) (Q : VK) : Prop := ∀ v x μ F' H', Same F F' → Rp K p q Z μ F' H' → RV K p F' v x → QD x μ → Q v H'
theorem Lf.same {K : PySem.W.Frag} {p q : Addr} {Z F F' : Hp} {QD : DQ} {Q : VK} (h : Lf K p q Z F QD Q) (s : Same F F') : Lf K p q Z F' QD Q := fun v x μ G H' s' => h v x μ G H' (s.trans s')
def SE (K : PySem.W.Frag) (te : TE) (de : DE) : Prop := ∀ p q Z σ δ μ F H QD Q, RS K p F σ δ → Rp K p q Z μ F H → Lf K p q Z F QD Q → de δ μ QD → te σ H Q
def ST (K : PySem.W.Frag) (tt : TT) (dt : DT) : Prop := ∀ p q Z σ δ μ F H (QD : Bool → Mu → Prop) (Q : Bool → Hp → Prop), RS K p F σ δ → Rp K p q Z μ F H → (∀ b μ' F' H', Same F F' → Rp K p q Z μ' F' H' → QD b μ' → Q b H') → dt δ μ QD → tt σ H Q
def SA (K : PySem.W.Frag) (ta : TA) (da : DA) : Prop := ∀ p q Z σ δ μ F H (QD : List DV → Mu → Prop) (Q : List V → Hp → Prop), RS K p F σ δ → Rp K p q Z μ F H → (∀ vs xs μ' F' H', Same F F' → Rp K p q Z μ' F' H' → RVs K p F' vs xs → QD xs μ' → Q vs H') → da δ μ QD → ta σ H Q
def SO (K : PySem.W.Frag) (to : TO) (dO : DO) : Prop := ∀ p q Z σ δ μ F H (QD : Option Int → Mu → Prop) (Q : Option Int → Hp → Prop), RS K p F σ δ → Rp K p q Z μ F H → (∀ b μ' F' H', Same F F' → Rp K p q Z μ' F' H' → QD b μ' → Q b H') → dO δ μ QD → to σ H Q
def SR (K : PySem.W.Frag) (r : R2) (dr : DR2) : Prop := ∀ p q Z v w x y μ F H QD Q, Rp K p q Z μ F H → RV K p F v x → RV K p F w y → Lf K p q Z F QD Q → dr x y μ QD → r v w H Q
def SB (K : PySem.W.Frag) (r : List V → Hp → VK → Prop) (dr : DR1) : Prop := ∀ p q Z vs xs μ F H QD Q, Rp K p q Z μ F H → RVs K p F vs xs → Lf K p q Z F QD Q → dr xs μ QD → r vs H Q
def SM (K : PySem.W.Frag) (T : String) (r : V → List V → Hp → VK → Prop) (dr : DV → List DV → Mu → DQ → Prop) (dty : DV → Mu → Prop) : Prop :=
  (∀ p q Z v x μ F H, Rp K p q Z μ F H → RV K p F v x → dty x μ → tyV K T v H) ∧ ∀ p q Z v x vs xs μ F H QD Q, Rp K p q Z μ F H → RV K p F v x → RVs K p F vs xs → Lf K p q Z F QD Q → dr x xs μ QD → r v vs H Q
def SC (K : PySem.W.Frag) (sp : Sp) (dp : DSp) : Prop := ∀ p q Z vs xs μ F H QD Q (E : XK), Rp K p q Z μ F H → RVs K p F vs xs → Lf K p q Z F QD Q → dp xs μ QD → sp vs H Q E
section
variable {K : PySem.W.Frag} {p : Addr} {F : Hp}
theorem rv_d {v : V} {d : PyData} (h : Dq K F v d) : RV K p F v (.d d) := h
theorem rv_int {i : Int} : RV K p F (.int i) (.d (.int i)) := Dq.int i
theorem rv_bl {i : Bool} : RV K p F (.bl i) (.d (.bool i)) := Dq.bl i
theorem rv_str {i : Str} : RV K p F (.str i) (.d (.str i)) := Dq.str i
theorem rv_non : RV K p F .non (.d .none) := Dq.non
theorem rv_ty {T : String} : RV K p F (.ty T) (.ty T) := rfl
theorem rv_r {a : Addr} : RV K p F (.ref a) (.r a) := rfl
end
def dVar (i : Nat) : DE := fun δ μ Q => ∃ x, δ[i]? = some (some x) ∧ Q x μ
def dC (x : DV) : DE := fun _ μ Q => Q x μ
def dOp (r : DR2) (a b : DE) : DE := fun δ μ Q => a δ μ fun x μ1 => b δ μ1 fun y μ2 => r x y μ2 Q
def dI0 (g : Int → Int → PyData) : DR2 := fun x y μ Q => ∃ i j, x = .d (.int i) ∧ y = .d (.int j) ∧ Q (.d (g i j)) μ
def dI (C : Int → Int → Prop) (g : Int → Int → PyData) : DR2 := fun x y μ Q => ∃ i j, x = .d (.int i) ∧ y = .d (.int j) ∧ C i j ∧ Q (.d (g i j)) μ
def dEq (neg : Bool) : DR2 := fun x y μ Q => ∃ a b, dat μ x = some a ∧ dat μ y = some b ∧ SeqAt.shaped a = true ∧ SeqAt.shaped b = true ∧ Q (.d (.bool (if neg then !PyData.eqv a b else PyData.eqv a b))) μ
def dNeg (a : DE) : DE := fun δ μ Q => a δ μ fun x μ1 => ∃ i, x = .d (.int i) ∧ Q (.d (.int (-i))) μ1
def dNotV (a : DE) : DE := fun δ μ Q => a δ μ fun x μ1 => ∃ c, x = .d (.bool c) ∧ Q (.d (.bool (!c))) μ1
def dAndV (a b : DE) : DE := fun δ μ Q => a δ μ fun x μ1 => ∃ c, x = .d (.bool c) ∧ if c = true then b δ μ1 Q else Q (.d (.bool false)) μ1
def dOrV (a b : DE) : DE := fun δ μ Q => a δ μ fun x μ1 => ∃ c, x = .d (.bool c) ∧ if c = true then Q (.d (.bool true)) μ1 else b δ μ1 Q
def dChain (r r' : DR2) (a b c : DE) : DE := fun δ μ Q => a δ μ fun x μ1 => b δ μ1 fun y μ2 => r x y μ2 fun z μ3 => ∃ k, z = .d (.bool k) ∧ if k = true then c δ μ3 fun w μ4 => r' y w μ4 Q else Q (.d (.bool false)) μ3
def dTest (a : DE) : DT := fun δ μ Q => a δ μ fun x μ1 => ∃ c, x = .d (.bool c) ∧ Q c μ1
def dAnd (a b : DT) : DT := fun δ μ Q => a δ μ fun c μ1 => if c = true then b δ μ1 Q else Q false μ1
def dOr (a b : DT) : DT := fun δ μ Q => a δ μ fun c μ1 => if c = true then Q true μ1 else b δ μ1 Q
def dNot (a : DT) : DT := fun δ μ Q => a δ μ fun c μ1 => Q (!c) μ1
def dYes : DT := fun _ μ Q => Q true μ
def dIf (t : DT) (a b : DE) : DE := fun δ μ Q => t δ μ fun c μ1 => if c = true then a δ μ1 Q else b δ μ1 Q
def dNil : DA := fun _ μ Q => Q [] μ
def dCons (a : DE) (r : DA) : DA := fun δ μ Q => a δ μ fun x μ1 => r δ μ1 fun xs μ2 => Q (x :: xs) μ2
def dTup (t : DA) : DE := fun δ μ Q => t δ μ fun xs μ1 => ∃ ds, unD xs = some ds ∧ ds.length ≤ sizeLine ∧ Q (.d (.tuple ds)) μ1
def dLstF (t : DA) : DE := fun δ μ Q => t δ μ fun xs μ1 => ∃ ds, unD xs = some ds ∧ ds.length ≤ sizeLine ∧ Q (.d (.list ds)) μ1
def dLstO (t : DA) : DE := fun δ μ Q => t δ μ fun xs μ1 => xs.length ≤ sizeLine ∧ ∀ l, μ1.o l = none → Q (.r l) (μ1.put l (.own xs))
/-- what goes out of one's hands -/
def dEsc (a : DE) : DE := fun δ μ Q => a δ μ fun x μ1 => match x with
  | .r l => (∃ ds, μ1.o l = some (.own (ds.map .d)) ∧ Q (.d (.list ds)) (μ1.put l (.fz ds))) ∨ ∃ ds, μ1.o l = some (.fz ds) ∧ Q (.d (.list ds)) μ1
  | y => Q y μ1
def dCall (dp : DSp) (ds : List PyData) (t : DA) : DE := fun δ μ Q => t δ μ fun xs μ1 => dp (xs ++ ds.map .d) μ1 Q
def dCallK (dp : DSp) (g : List DV → List DV → List DV) (t tk : DA) : DE := fun δ μ Q => t δ μ fun xs μ1 => tk δ μ1 fun ys μ2 => dp (g xs ys) μ2 Q
def dCB (r : DR1) (t : DA) : DE := fun δ μ Q => t δ μ fun xs μ1 => r xs μ1 Q
def dBM (dty : DV → Mu → Prop) (r : DV → List DV → Mu → DQ → Prop) (o : DE) (t : DA) : DE := fun δ μ Q => o δ μ fun x μ1 => dty x μ1 ∧ t δ μ1 fun xs μ2 => r x xs μ2 Q
def dNoPart : DO := fun _ μ Q => Q none μ
def dPart (a : DE) : DO := fun δ μ Q => a δ μ fun x μ1 => ∃ i, x = .d (.int i) ∧ Q (some i) μ1
section
variable {K : PySem.W.Frag}
theorem se_var {i : Nat} : SE K (tVar i) (dVar i) := by
  intro p q Z σ δ μ F H QD Q rs rp lf h
  obtain ⟨x, e, h⟩ := h
  obtain ⟨o, e', r⟩ := Paired.at rs e
  rcases r with r | ⟨v, y, rfl, r2, r3⟩
  · cases r
  · cases r2
    exact ⟨v, e', lf _ _ _ _ _ (Same.refl _) rp r3 h⟩
theorem se_int {i : Int} : SE K (tC (.int i)) (dC (.d (.int i))) := fun p q Z σ δ μ F H QD Q rs rp lf h => lf _ _ _ _ _ (Same.refl _) rp rv_int h
theorem se_bl {i : Bool} : SE K (tC (.bl i)) (dC (.d (.bool i))) := fun p q Z σ δ μ F H QD Q rs rp lf h => lf _ _ _ _ _ (Same.refl _) rp rv_bl h
theorem se_str {i : Str} : SE K (tC (.str i)) (dC (.d (.str i))) := fun p q Z σ δ μ F H QD Q rs rp lf h => lf _ _ _ _ _ (Same.refl _) rp rv_str h
theorem se_ty {T : String} : SE K (tC (.ty T)) (dC (.ty T)) := fun p q Z σ δ μ F H QD Q rs rp lf h => lf _ _ _ _ _ (Same.refl _) rp rv_ty h
theorem se_op {r : R2} {dr : DR2} {ta tb : TE} {da db : DE} (sr : SR K r dr) (ha : SE K ta da) (hb : SE K tb db) : SE K (tOp r ta tb) (dOp dr da db) := by
  intro p q Z σ δ μ F H QD Q rs rp lf h
  refine ha p q Z σ δ μ F H _ _ rs rp (fun v x μ1 F1 H1 s1 rp1 rv1 h1 => ?_) h
  refine hb p q Z σ δ μ1 F1 H1 _ _ (rs.same s1) rp1 (fun w y μ2 F2 H2 s2 rp2 rv2 h2 => ?_) h1
  exact sr p q Z v w x y μ2 F2 H2 _ _ rp2 (rv1.same s2) rv2 (lf.same (s1.trans s2)) h2
theorem sr_I0i {f : Int → Int → Int} : SR K (rI0 fun i j => .int (f i j)) (dI0 fun i j => .int (f i j)) := by
  intro p q Z v w x y μ F H QD Q rp r1 r2 lf h
  obtain ⟨i, j, rfl, rfl, h⟩ := h
  cases r1; cases r2
  exact ⟨i, j, rfl, rfl, lf _ _ _ _ _ (Same.refl _) rp rv_int h⟩
theorem sr_I0b {f : Int → Int → Bool} : SR K (rI0 fun i j => .bl (f i j)) (dI0 fun i j => .bool (f i j)) := by
  intro p q Z v w x y μ F H QD Q rp r1 r2 lf h
  obtain ⟨i, j, rfl, rfl, h⟩ := h
  cases r1; cases r2
  exact ⟨i, j, rfl, rfl, lf _ _ _ _ _ (Same.refl _) rp rv_bl h⟩
theorem sr_I {C : Int → Int → Prop} {f : Int → Int → Int} : SR K (rI C fun i j => .int (f i j)) (dI C fun i j => .int (f i j)) := by
  intro p q Z v w x y μ F H QD Q rp r1 r2 lf h
  obtain ⟨i, j, rfl, rfl, c, h⟩ := h
  cases r1; cases r2
  exact ⟨i, j, rfl, rfl, c, lf _ _ _ _ _ (Same.refl _) rp rv_int h⟩
theorem sr_eq : SR K (rEqD K) (dEq false) := by
  intro p q Z v w x y μ F H QD Q rp r1 r2 lf h
  obtain ⟨a, b, e1, e2, s1, s2, h⟩ := h
  exact ⟨a, b, rp.dat r1 e1 (SeqAt.canLay_of_shaped s1), rp.dat r2 e2 (SeqAt.canLay_of_shaped s2), s1, s2, lf _ _ _ _ _ (Same.refl _) rp rv_bl h⟩
theorem sr_ne : SR K (rNeD K) (dEq true) := by
  intro p q Z v w x y μ F H QD Q rp r1 r2 lf h
  obtain ⟨a, b, e1, e2, s1, s2, h⟩ := h
  exact ⟨a, b, rp.dat r1 e1 (SeqAt.canLay_of_shaped s1), rp.dat r2 e2 (SeqAt.canLay_of_shaped s2), s1, s2, lf _ _ _ _ _ (Same.refl _) rp rv_bl h⟩
theorem se_neg {ta : TE} {da : DE} (ha : SE K ta da) : SE K (tUn (rU fun i => .int (-i)) ta) (dNeg da) := by
  intro p q Z σ δ μ F H QD Q rs rp lf h
  refine ha p q Z σ δ μ F H _ _ rs rp (fun v x μ1 F1 H1 s1 rp1 rv1 h1 => ?_) h
  obtain ⟨i, rfl, h1⟩ := h1
  cases rv1
  exact ⟨i, rfl, lf _ _ _ _ _ s1 rp1 rv_int h1⟩
theorem se_not {ta : TE} {da : DE} (ha : SE K ta da) : SE K (tNotV ta) (dNotV da) := by
  intro p q Z σ δ μ F H QD Q rs rp lf h
  refine ha p q Z σ δ μ F H _ _ rs rp (fun v x μ1 F1 H1 s1 rp1 rv1 h1 => ?_) h
  obtain ⟨i, rfl, h1⟩ := h1
  cases rv1
  exact ⟨i, rfl, lf _ _ _ _ _ s1 rp1 rv_bl h1⟩
theorem se_and {ta tb : TE} {da db : DE} (ha : SE K ta da) (hb : SE K tb db) : SE K (tAndV ta tb) (dAndV da db) := by
  intro p q Z σ δ μ F H QD Q rs rp lf h
  refine ha p q Z σ δ μ F H _ _ rs rp (fun v x μ1 F1 H1 s1 rp1 rv1 h1 => ?_) h
  obtain ⟨c, rfl, h1⟩ := h1
  cases rv1
  refine ⟨c, rfl, ?_⟩
  cases c with
  | true => rw [if_pos rfl] at h1 ⊢; exact hb p q Z σ δ μ1 F1 H1 _ _ (rs.same s1) rp1 (lf.same s1) h1
  | false => rw [if_neg Bool.false_ne_true] at h1 ⊢; exact lf _ _ _ _ _ s1 rp1 rv_bl h1
theorem st_test {ta : TE} {da : DE} (ha : SE K ta da) : ST K (tTest ta) (dTest da) := by
  intro p q Z σ δ μ F H QD Q rs rp lf h
  refine ha p q Z σ δ μ F H _ _ rs rp (fun v x μ1 F1 H1 s1 rp1 rv1 h1 => ?_) h
  obtain ⟨c, rfl, h1⟩ := h1
  cases rv1
  exact ⟨c, rfl, lf _ _ _ _ s1 rp1 h1⟩
theorem st_b {ta : TE} {da : DE} (ha : SE K ta da) : ST K (tB ta) (dTest da) := by
  intro p q Z σ δ μ F H QD Q rs rp lf h
  refine ha p q Z σ δ μ F H _ _ rs rp (fun v x μ1 F1 H1 s1 rp1 rv1 h1 => ?_) h
  obtain ⟨c, rfl, h1⟩ := h1
  cases rv1
  exact ⟨c, rfl, lf _ _ _ _ s1 rp1 h1⟩
theorem st_and {ta tb : TT} {da db : DT} (ha : ST K ta da) (hb : ST K tb db) : ST K (tAnd ta tb) (dAnd da db) := by
  intro p q Z σ δ μ F H QD Q rs rp lf h
  refine ha p q Z σ δ μ F H _ _ rs rp (fun c μ1 F1 H1 s1 rp1 h1 => ?_) h
  cases c with
  | true => rw [if_pos rfl] at h1 ⊢; exact hb p q Z σ δ μ1 F1 H1 _ _ (rs.same s1) rp1 (fun b μ' F' H' s' => lf b μ' F' H' (s1.trans s')) h1
  | false => rw [if_neg Bool.false_ne_true] at h1 ⊢; exact lf _ _ _ _ s1 rp1 h1
theorem st_or {ta tb : TT} {da db : DT} (ha : ST K ta da) (hb : ST K tb db) : ST K (tOr ta tb) (dOr da db) := by
  intro p q Z σ δ μ F H QD Q rs rp lf h
  refine ha p q Z σ δ μ F H _ _ rs rp (fun c μ1 F1 H1 s1 rp1 h1 => ?_) h
  cases c with
  | true => rw [if_pos rfl] at h1 ⊢; exact lf _ _ _ _ s1 rp1 h1
  | false => rw [if_neg Bool.false_ne_true] at h1 ⊢; exact hb p q Z σ δ μ1 F1 H1 _ _ (rs.same s1) rp1 (fun b μ' F' H' s' => lf b μ' F' H' (s1.trans s')) h1
theorem st_not {ta : TT} {da : DT} (ha : ST K ta da) : ST K (tNot ta) (dNot da) := by
  intro p q Z σ δ μ F H QD Q rs rp lf h
  exact ha p q Z σ δ μ F H _ _ rs rp (fun c μ1 F1 H1 s1 rp1 h1 => lf _ _ _ _ s1 rp1 h1) h
theorem st_yes : ST K tYes dYes := fun p q Z σ δ μ F H QD Q rs rp lf h => lf _ _ _ _ (Same.refl _) rp h
theorem se_chain {r r' : R2} {dr dr' : DR2} {ta tb tc : TE} {da db dc : DE} (sr : SR K r dr) (sr' : SR K r' dr') (ha : SE K ta da) (hb : SE K tb db) (hc : SE K tc dc) : SE K (tChain r r' ta tb tc) (dChain dr dr' da db dc) := by
  intro p q Z σ δ μ F H QD Q rs rp lf h
  refine ha p q Z σ δ μ F H _ _ rs rp (fun v x μ1 F1 H1 s1 rp1 rv1 h1 => ?_) h
  refine hb p q Z σ δ μ1 F1 H1 _ _ (rs.same s1) rp1 (fun w y μ2 F2 H2 s2 rp2 rv2 h2 => ?_) h1
  refine sr p q Z v w x y μ2 F2 H2 _ _ rp2 (rv1.same s2) rv2 (fun u z μ3 F3 H3 s3 rp3 rv3 h3 => ?_) h2
  obtain ⟨k, rfl, h3⟩ := h3
  cases rv3
  refine ⟨k, rfl, ?_⟩
  cases k with
  | false => rw [if_neg Bool.false_ne_true] at h3 ⊢; exact lf _ _ _ _ _ ((s1.trans s2).trans s3) rp3 rv_bl h3
  | true =>
    rw [if_pos rfl] at h3 ⊢
    refine hc p q Z σ δ μ3 F3 H3 _ _ (((rs.same s1).same s2).same s3) rp3 (fun u' z' μ4 F4 H4 s4 rp4 rv4 h4 => ?_) h3
    exact sr' p q Z w u' y z' μ4 F4 H4 _ _ rp4 ((rv2.same s3).same s4) rv4 (lf.same (((s1.trans s2).trans s3).trans s4)) h4
theorem sa_nil : SA K tNil dNil := fun p q Z σ δ μ F H QD Q rs rp lf h => lf _ _ _ _ _ (Same.refl _) rp .nil h
theorem sa_cons {ta : TE} {da : DE} {t : TA} {d : DA} (ha : SE K ta da) (ht : SA K t d) : SA K (tCons ta t) (dCons da d) := by
  intro p q Z σ δ μ F H QD Q rs rp lf h
  refine ha p q Z σ δ μ F H _ _ rs rp (fun v x μ1 F1 H1 s1 rp1 rv1 h1 => ?_) h
  exact ht p q Z σ δ μ1 F1 H1 _ _ (rs.same s1) rp1 (fun vs xs μ2 F2 H2 s2 rp2 rv2 h2 => lf _ _ _ _ _ (s1.trans s2) rp2 (.cons (rv1.same s2) rv2) h2) h1
theorem se_tup {t : TA} {d : DA} (ht : SA K t d) : SE K (tTup t) (dTup d) := by
  intro p q Z σ δ μ F H QD Q rs rp lf h
  refine ht p q Z σ δ μ F H _ _ rs rp (fun vs xs μ1 F1 H1 s1 rp1 rv1 h1 => ?_) h
  obtain ⟨ds, e, hl, h1⟩ := h1
  rw [unD_some e] at rv1
  refine ⟨by rw [(Paired.len rv1), List.length_map]; exact hl, fun a ha => ?_⟩
  obtain ⟨rp2, s2⟩ := rp1.newF (o := .tup vs) ha
  exact lf _ _ _ _ _ (s1.trans s2) rp2 (rv_d (.tup upd_same (DqAll.same s2 _ _ (RVs.all rv1)))) h1
theorem se_lstF {t : TA} {d : DA} (ht : SA K t d) : SE K (tLst t) (dLstF d) := by
  intro p q Z σ δ μ F H QD Q rs rp lf h
  refine ht p q Z σ δ μ F H _ _ rs rp (fun vs xs μ1 F1 H1 s1 rp1 rv1 h1 => ?_) h
  obtain ⟨ds, e, hl, h1⟩ := h1
  rw [unD_some e] at rv1
  refine ⟨by rw [(Paired.len rv1), List.length_map]; exact hl, fun a ha => ?_⟩
  obtain ⟨rp2, s2⟩ := rp1.newF (o := .lst vs) ha
  exact lf _ _ _ _ _ (s1.trans s2) rp2 (rv_d (.lst upd_same (DqAll.same s2 _ _ (RVs.all rv1)))) h1
theorem se_lstO {t : TA} {d : DA} (ht : SA K t d) : SE K (tLst t) (dLstO d) := by
  intro p q Z σ δ μ F H QD Q rs rp lf h
  refine ht p q Z σ δ μ F H _ _ rs rp (fun vs xs μ1 F1 H1 s1 rp1 rv1 h1 => ?_) h
  obtain ⟨hl, h1⟩ := h1
  refine ⟨by rw [(Paired.len rv1)]; exact hl, fun a ha => ?_⟩
  exact lf _ _ _ _ _ s1 (rp1.newO ha rv1) rv_r (h1 a (rp1.free ha).1)
theorem se_esc {te : TE} {de : DE} (he : SE K te de) : SE K te (dEsc de) := by
  intro p q Z σ δ μ F H QD Q rs rp lf h
  refine he p q Z σ δ μ F H _ _ rs rp (fun v x μ1 F1 H1 s1 rp1 rv1 h1 => ?_) h
  cases x with
  | d y => exact lf _ _ _ _ _ s1 rp1 rv1 h1
  | pen => exact lf _ _ _ _ _ s1 rp1 rv1 h1
  | ty T => exact lf _ _ _ _ _ s1 rp1 rv1 h1
  | tv vs => exact lf _ _ _ _ _ s1 rp1 rv1 h1
  | ex c fs => exact lf _ _ _ _ _ s1 rp1 rv1 h1
  | fn n => exact lf _ _ _ _ _ s1 rp1 rv1 h1
  | r a =>
    cases rv1
    rcases h1 with ⟨ds, e, h1⟩ | ⟨ds, e, h1⟩
    · obtain ⟨F', s2, rp2, dq⟩ := rp1.freeze e
      exact lf _ _ _ _ _ (s1.trans s2) rp2 (rv_d (dq)) h1
    · obtain ⟨vs, g1, g2⟩ := rp1.fz _ _ e
      exact lf _ _ _ _ _ s1 rp1 (rv_d (.lst g1 g2)) h1
theorem rvs_consts {p : Addr} {F : Hp} : ∀ {vs : List V} {ds : List PyData}, (∀ F, DqAll K F vs ds) → RVs K p F vs (ds.map .d) := fun h => DqAll.rvs (h _)
theorem se_call {sp : Sp} {dp : DSp} {dvs : List V} {ds : List PyData} {E : XK} {t : TA} {d : DA} (hc : SC K sp dp) (hd : ∀ F, DqAll K F dvs ds) (ht : SA K t d) : SE K (tCall sp dvs E t) (dCall dp ds d) := by
  intro p q Z σ δ μ F H QD Q rs rp lf h
  refine ht p q Z σ δ μ F H _ _ rs rp (fun vs xs μ1 F1 H1 s1 rp1 rv1 h1 => ?_) h
  exact hc p q Z _ _ μ1 F1 H1 _ _ E rp1 (Paired.app rv1 (rvs_consts hd)) (lf.same s1) h1
theorem se_callK {sp : Sp} {dp : DSp} {g : List V → List V → List V} {g' : List DV → List DV → List DV} {E : XK} {t tk : TA} {d dk : DA} (hc : SC K sp dp) (hg : ∀ (p : Addr) (F : Hp) vs ws xs ys, RVs K p F vs xs → RVs K p F ws ys → RVs K p F (g vs ws) (g' xs ys)) (ht : SA K t d) (hk : SA K tk dk) : SE K (tCallK sp g E t tk) (dCallK dp g' d dk) := by
  intro p q Z σ δ μ F H QD Q rs rp lf h
  refine ht p q Z σ δ μ F H _ _ rs rp (fun vs xs μ1 F1 H1 s1 rp1 rv1 h1 => ?_) h
  refine hk p q Z σ δ μ1 F1 H1 _ _ (rs.same s1) rp1 (fun ws ys μ2 F2 H2 s2 rp2 rv2 h2 => ?_) h1
  exact hc p q Z _ _ μ2 F2 H2 _ _ E rp2 (hg _ _ _ _ _ _ (rv1.same s2) rv2) (lf.same (s1.trans s2)) h2
theorem gK_rel {na nk : Nat} (p : Addr) (F : Hp) (vs ws : List V) (xs ys : List DV) (h1 : RVs K p F vs xs) (h2 : RVs K p F ws ys) : RVs K p F (gK na nk vs ws) (gK na nk xs ys) := by
  unfold gK
  rw [(Paired.len h1), (Paired.len h2)]
  split
  · exact Paired.app h1 h2
  · exact .nil
theorem se_cb {r : List V → Hp → VK → Prop} {dr : DR1} {t : TA} {d : DA} (hr : SB K r dr) (ht : SA K t d) : SE K (tCB r t) (dCB dr d) := by
  intro p q Z σ δ μ F H QD Q rs rp lf h
  exact ht p q Z σ δ μ F H _ _ rs rp (fun vs xs μ1 F1 H1 s1 rp1 rv1 h1 => hr p q Z _ _ μ1 F1 H1 _ _ rp1 rv1 (lf.same s1) h1) h
theorem se_bm {T : String} {r : V → List V → Hp → VK → Prop} {dr : DV → List DV → Mu → DQ → Prop} {dty : DV → Mu → Prop} {to : TE} {dO : DE} {t : TA} {d : DA} (hm : SM K T r dr dty) (ho : SE K to dO) (ht : SA K t d) : SE K (tBM K T r to t) (dBM dty dr dO d) := by
  intro p q Z σ δ μ F H QD Q rs rp lf h
  refine ho p q Z σ δ μ F H _ _ rs rp (fun v x μ1 F1 H1 s1 rp1 rv1 h1 => ?_) h
  refine ⟨hm.1 p q Z _ _ μ1 F1 H1 rp1 rv1 h1.1, ?_⟩
  exact ht p q Z σ δ μ1 F1 H1 _ _ (rs.same s1) rp1 (fun vs xs μ2 F2 H2 s2 rp2 rv2 h2 => hm.2 p q Z _ _ _ _ μ2 F2 H2 _ _ rp2 (rv1.same s2) rv2 (lf.same (s1.trans s2)) h2) h1.2
theorem so_none : SO K tNoPart dNoPart := fun p q Z σ δ μ F H QD Q rs rp lf h => lf _ _ _ _ (Same.refl _) rp h
theorem so_some {te : TE} {de : DE} (he : SE K te de) : SO K (tPart te) (dPart de) := by
  intro p q Z σ δ μ F H QD Q rs rp lf h
  refine he p q Z σ δ μ F H _ _ rs rp (fun v x μ1 F1 H1 s1 rp1 rv1 h1 => ?_) h
  obtain ⟨i, rfl, h1⟩ := h1
  cases rv1
  exact ⟨i, rfl, lf _ _ _ _ s1 rp1 h1⟩
end
def cutG {α : Type} (xs : List α) (lo hi : Option Int) : List α := (xs.drop (HT.sIx xs.length 0 lo)).take (HT.sIx xs.length xs.length hi - HT.sIx xs.length 0 lo)
theorem cutG_map {α β : Type} (f : α → β) (xs : List α) (lo hi : Option Int) : cutG (xs.map f) lo hi = (cutG xs lo hi).map f := by
  unfold cutG; rw [List.length_map, List.map_take, List.map_drop]
theorem atI_map {α β : Type} (f : α → β) (xs : List α) (i : Int) : atI (xs.map f) i = (atI xs i).map f := by
  unfold atI
  rw [List.length_map]
  cases ixN xs.length i with
  | none => rfl
  | some j => simp
theorem atI_rel {K : PySem.W.Frag} {p : Addr} {F : Hp} {vs : List V} {xs : List DV} {i : Int} {x : DV} (h : RVs K p F vs xs) (e : atI xs i = some x) : ∃ v, atI vs i = some v ∧ RV K p F v x := by
  unfold atI at e ⊢
  rw [(Paired.len h)]
  cases hj : ixN xs.length i with
  | none => rw [hj] at e; cases e
  | some j =>
    rw [hj] at e
    exact Paired.at h e
def dIx : DR2 := fun x y μ Q => ∃ xs i z, its μ x = some xs ∧ y = .d (.int i) ∧ atI xs i = some z ∧ Q z μ
def dIxT : DR2 := fun x y μ Q => ∃ ds i e, x = .d (.tuple ds) ∧ y = .d (.int i) ∧ atI ds i = some e ∧ Q (.d e) μ
def dIxS : DR2 := fun x y μ Q => ∃ z i c, x = .d (.str z) ∧ y = .d (.int i) ∧ z.length ≤ sizeLine ∧ atI z.cps.toList i = some c ∧ Q (.d (.str ⟨#[c]⟩)) μ
def dCat (O : Bool) : DR2 := fun x y μ Q => ∃ xs ys, its μ x = some xs ∧ its μ y = some ys ∧ xs.length + ys.length ≤ sizeLine ∧ if O = true then ∀ l, μ.o l = none → Q (.r l) (μ.put l (.own (xs ++ ys))) else ∃ ds, unD (xs ++ ys) = some ds ∧ Q (.d (.list ds)) μ
def dCatT : DR2 := fun x y μ Q => ∃ ds es, x = .d (.tuple ds) ∧ y = .d (.tuple es) ∧ ds ≠ [] ∧ ds.length + es.length ≤ sizeLine ∧ Q (.d (.tuple (ds ++ es))) μ
def dRep (O : Bool) : DR2 := fun x y μ Q => ∃ xs k, its μ x = some xs ∧ y = .d (.int k) ∧ -(2 ^ 63) ≤ k ∧ k < 2 ^ 63 ∧ xs.length * k.toNat ≤ sizeLine ∧ if O = true then ∀ l, μ.o l = none → Q (.r l) (μ.put l (.own (List.replicate k.toNat xs).flatten)) else ∃ ds, unD (List.replicate k.toNat xs).flatten = some ds ∧ Q (.d (.list ds)) μ
def dAddS : DR2 := fun x y μ Q => ∃ i j, x = .d (.str i) ∧ y = .d (.str j) ∧ i.length + j.length ≤ sizeLine ∧ Q (.d (.str (i ++ j))) μ
def dSl (O : Bool) (a : DE) (l h : DO) : DE := fun δ μ Q => a δ μ fun x μ1 => l δ μ1 fun lo μ2 => h δ μ2 fun hi μ3 => ∃ xs, its μ3 x = some xs ∧ if O = true then ∀ l, μ3.o l = none → Q (.r l) (μ3.put l (.own (cutG xs lo hi))) else ∃ ds, unD (cutG xs lo hi) = some ds ∧ Q (.d (.list ds)) μ3
def dSlS (a : DE) (l h : DO) : DE := fun δ μ Q => a δ μ fun x μ1 => l δ μ1 fun lo μ2 => h δ μ2 fun hi μ3 => ∃ z, x = .d (.str z) ∧ z.length ≤ sizeLine ∧ Q (.d (.str (cutS z lo hi))) μ3
def lenD : PyData → Option Nat
  | .list ds => some ds.length
  | .tuple ds => some ds.length
  | .str z => if z.length ≤ sizeLine then some z.length else none
  | _ => none
def lenV (μ : Mu) : DV → Option Nat
  | .d y => lenD y
  | .r a => (its μ (.r a)).map List.length
  | _ => none
def dLen : DR1 := fun xs μ Q => ∃ x n, xs = [x] ∧ lenV μ x = some n ∧ Q (.d (.int n)) μ
def dAbs : DR1 := fun xs μ Q => ∃ i, xs = [.d (.int i)] ∧ Q (.d (.int (if i < 0 then -i else i))) μ
def dMin2 : DR1 := fun xs μ Q => ∃ i j, xs = [.d (.int i), .d (.int j)] ∧ Q (.d (.int (if j < i then j else i))) μ
def dMax2 : DR1 := fun xs μ Q => ∃ i j, xs = [.d (.int i), .d (.int j)] ∧ Q (.d (.int (if j > i then j else i))) μ
def dInt1 : DR1 := fun xs μ Q => (∃ i, xs = [.d (.int i)] ∧ Q (.d (.int i)) μ) ∨ ∃ k, xs = [.d (.bool k)] ∧ Q (.d (.int (if k then 1 else 0))) μ
/-- isinstance by the data -/
def isiD : PyData → String → Option Bool
  | .int _, "int" => some true
  | .int _, "bool" => some false
  | .int _, "list" => some false
  | .int _, "tuple" => some false
  | .int _, "str" => some false
  | .bool _, "int" => some true
  | .bool _, "bool" => some true
  | .bool _, "list" => some false
  | .bool _, "tuple" => some false
  | .bool _, "str" => some false
  | .str _, "int" => some false
  | .str _, "bool" => some false
  | .str _, "list" => some false
  | .str _, "tuple" => some false
  | .str _, "str" => some true
  | .none, "int" => some false
  | .none, "bool" => some false
  | .none, "list" => some false
  | .none, "tuple" => some false
  | .none, "str" => some false
  | .list _, "int" => some false
  | .list _, "bool" => some false
  | .list _, "list" => some true
  | .list _, "tuple" => some false
  | .list _, "str" => some false
  | .tuple _, "int" => some false
  | .tuple _, "bool" => some false
  | .tuple _, "list" => some false
  | .tuple _, "tuple" => some true
  | .tuple _, "str" => some false
  | .dict _, "int" => some false
  | .dict _, "bool" => some false
  | .dict _, "list" => some false
  | .dict _, "tuple" => some false
  | .dict _, "str" => some false
  | _, _ => none
def dIsi : DR1 := fun xs μ Q => ∃ x T d b, xs = [x, .ty T] ∧ dat μ x = some d ∧ isiD d T = some b ∧ Q (.d (.bool b)) μ
def dListOf (O : Bool) : DR1 := fun xs μ Q => ∃ x ys, xs = [x] ∧ ((its μ x = some ys) ∨ ∃ ds, x = .d (.tuple ds) ∧ ys = ds.map .d) ∧ if O = true then ∀ l, μ.o l = none → Q (.r l) (μ.put l (.own ys)) else ∃ ds, unD ys = some ds ∧ Q (.d (.list ds)) μ
def dTupleOf : DR1 := fun xs μ Q => ∃ x, xs = [x] ∧ ((∃ ys ds, its μ x = some ys ∧ unD ys = some ds ∧ Q (.d (.tuple ds)) μ) ∨ ∃ ds, x = .d (.tuple ds) ∧ Q (.d (.tuple ds)) μ)
def ownT (x : DV) (μ : Mu) : Prop := ∃ xs, its μ x = some xs
def dAppend : DV → List DV → Mu → DQ → Prop := fun x vs μ Q => ∃ l xs y, x = .r l ∧ vs = [y] ∧ μ.o l = some (.own xs) ∧ xs.length < sizeLine ∧ Q (.d .none) (μ.put l (.own (xs ++ [y])))
def dExtend : DV → List DV → Mu → DQ → Prop := fun x vs μ Q => ∃ l xs y ys, x = .r l ∧ vs = [y] ∧ μ.o l = some (.own xs) ∧ its μ y = some ys ∧ xs.length + ys.length ≤ sizeLine ∧ Q (.d .none) (μ.put l (.own (xs ++ ys)))
def dReverse : DV → List DV → Mu → DQ → Prop := fun x vs μ Q => ∃ l xs, x = .r l ∧ vs = [] ∧ μ.o l = some (.own xs) ∧ Q (.d .none) (μ.put l (.own xs.reverse))
def dClear : DV → List DV → Mu → DQ → Prop := fun x vs μ Q => ∃ l xs, x = .r l ∧ vs = [] ∧ μ.o l = some (.own xs) ∧ Q (.d .none) (μ.put l (.own []))
section
variable {K : PySem.W.Frag}
theorem sr_ix : SR K (rIxL K) dIx := by
  intro p q Z v w x y μ F H QD Q rp r1 r2 lf h
  obtain ⟨xs, i, z, e1, rfl, e2, h⟩ := h
  cases r2
  obtain ⟨a, vs, rfl, ha, rvs⟩ := rp.its r1 e1
  obtain ⟨u, e3, ru⟩ := atI_rel rvs e2
  exact ⟨a, vs, i, u, rfl, rfl, SqL.of ha, e3, lf _ _ _ _ _ (Same.refl _) rp ru h⟩
theorem tup_inv {p : Addr} {F : Hp} {v : V} {ds : List PyData} (h : RV K p F v (.d (.tuple ds))) : ∃ a vs, v = .ref a ∧ F a = some (.tup vs) ∧ DqAll K F vs ds := by
  cases h with
  | tup hs ha => exact ⟨_, _, rfl, hs, ha⟩
theorem sr_ixT : SR K (rIxT K) dIxT := by
  intro p q Z v w x y μ F H QD Q rp r1 r2 lf h
  obtain ⟨ds, i, z, rfl, rfl, e2, h⟩ := h
  cases r2
  obtain ⟨a, vs, rfl, ha, rvs⟩ := tup_inv r1
  obtain ⟨u, e3, ru⟩ := atI_rel (p := p) (x := .d z) (DqAll.rvs rvs) (by rw [atI_map, e2]; rfl)
  exact ⟨a, vs, i, u, rfl, rfl, SqT.of (rp.fs _ _ ha), e3, lf _ _ _ _ _ (Same.refl _) rp ru h⟩
theorem sr_ixS : SR K rIxS dIxS := by
  intro p q Z v w x y μ F H QD Q rp r1 r2 lf h
  obtain ⟨z, i, c, rfl, rfl, hl, e, h⟩ := h
  cases r1; cases r2
  exact ⟨z, i, c, rfl, rfl, hl, e, lf _ _ _ _ _ (Same.refl _) rp rv_str h⟩
/-- a new list, either way -/
theorem new_list {O : Bool} {p q : Addr} {Z F H : Hp} {μ : Mu} {QD : DQ} {Q : VK} {vs : List V} {xs : List DV} (rp : Rp K p q Z μ F H) (rv : RVs K p F vs xs) (lf : Lf K p q Z F QD Q)
    (h : if O = true then ∀ l, μ.o l = none → QD (.r l) (μ.put l (.own xs)) else ∃ ds, unD xs = some ds ∧ QD (.d (.list ds)) μ) {l : Addr} (hl : H l = none) : Q (.ref l) (upd H l (.lst vs)) := by
  cases O with
  | true =>
    rw [if_pos rfl] at h
    exact lf _ _ _ _ _ (Same.refl _) (rp.newO hl rv) rv_r (h l (rp.free hl).1)
  | false =>
    rw [if_neg Bool.false_ne_true] at h
    obtain ⟨ds, e, h⟩ := h
    rw [unD_some e] at rv
    obtain ⟨rp2, s2⟩ := rp.newF (o := .lst vs) hl
    exact lf _ _ _ _ _ s2 rp2 (rv_d (.lst upd_same (DqAll.same s2 _ _ (RVs.all rv)))) h
theorem sr_addS : SR K (fun x y H Q => ∃ i j, x = .str i ∧ y = .str j ∧ i.length + j.length ≤ sizeLine ∧ Q (.str (i ++ j)) H) dAddS := by
  intro p q Z v w x y μ F H QD Q rp r1 r2 lf h
  obtain ⟨i, j, rfl, rfl, hl, h⟩ := h
  cases r1; cases r2
  exact ⟨i, j, rfl, rfl, hl, lf _ _ _ _ _ (Same.refl _) rp rv_str h⟩
theorem se_sl {O : Bool} {te : TE} {tl th : TO} {de : DE} {dl dh : DO} (he : SE K te de) (hl : SO K tl dl) (hh : SO K th dh) : SE K (tSl (rSlL K) te tl th) (dSl O de dl dh) := by
  intro p q Z σ δ μ F H QD Q rs rp lf h
  refine he p q Z σ δ μ F H _ _ rs rp (fun v x μ1 F1 H1 s1 rp1 rv1 h1 => ?_) h
  refine hl p q Z σ δ μ1 F1 H1 _ _ (rs.same s1) rp1 (fun lo μ2 F2 H2 s2 rp2 h2 => ?_) h1
  refine hh p q Z σ δ μ2 F2 H2 _ _ ((rs.same s1).same s2) rp2 (fun hi μ3 F3 H3 s3 rp3 h3 => ?_) h2
  obtain ⟨xs, e, h3⟩ := h3
  obtain ⟨a, vs, rfl, ha, rv⟩ := rp3.its ((rv1.same s2).same s3) e
  have rc : RVs K p F3 (cutV vs lo hi) (cutG xs lo hi) := by
    unfold cutV cutG
    rw [(Paired.len rv)]
    exact Paired.take _ (Paired.drop _ rv)
  exact ⟨a, vs, rfl, SqL.of ha, fun l hl => new_list rp3 rc (lf.same ((s1.trans s2).trans s3)) h3 hl⟩
theorem sb_len : SB K (rLen K) dLen := by
  intro p q Z vs xs μ F H QD Q rp rv lf h
  obtain ⟨x, n, rfl, e, h⟩ := h
  cases rv with
  | cons r rr =>
    cases rr
    cases x with
    | r a =>
      obtain ⟨ys, e1, rfl⟩ := Option.map_eq_some_iff.mp (show (its μ (.r a)).map List.length = some n from e)
      obtain ⟨a, ws, rfl, ha, rw'⟩ := rp.its r e1
      refine ⟨_, ws.length, rfl, .inl ⟨ws, SqL.of ha, rfl⟩, lf _ _ _ _ _ (Same.refl _) rp rv_int ?_⟩
      rw [Paired.len rw']; exact h
    | pen => cases e
    | ty T => cases e
    | tv vs => cases e
    | ex c fs => cases e
    | fn n => cases e
    | d y =>
      cases y with
      | list ds =>
        cases e
        obtain ⟨a, ws, rfl, ha, rw'⟩ := rp.its (xs := ds.map .d) r rfl
        refine ⟨_, ws.length, rfl, .inl ⟨ws, SqL.of ha, rfl⟩, lf _ _ _ _ _ (Same.refl _) rp rv_int ?_⟩
        rw [Paired.len rw', List.length_map]; exact h
      | tuple ds =>
        cases e
        obtain ⟨a, ws, rfl, ha, rw'⟩ := tup_inv r
        refine ⟨_, ws.length, rfl, .inr ⟨ws, SqT.of (rp.fs _ _ ha), rfl⟩, lf _ _ _ _ _ (Same.refl _) rp rv_int ?_⟩
        rw [Paired.len (DqAll.rvs (p := p) rw'), List.length_map]; exact h
      | str z =>
        change (if z.length ≤ sizeLine then some z.length else none) = some n at e
        by_cases hz : z.length ≤ sizeLine
        · rw [if_pos hz] at e
          cases e
          cases r
          exact ⟨_, _, rfl, ⟨hz, rfl⟩, lf _ _ _ _ _ (Same.refl _) rp rv_int h⟩
        · rw [if_neg hz] at e; cases e
      | _ => cases e
theorem sb_min2 : SB K rMin2 dMin2 := by
  intro p q Z vs xs μ F H QD Q rp rv lf h
  obtain ⟨i, j, rfl, h⟩ := h
  cases rv with
  | cons r rr =>
    cases rr with
    | cons r2 rr2 => cases rr2; cases r; cases r2; exact ⟨i, j, rfl, lf _ _ _ _ _ (Same.refl _) rp rv_int h⟩
theorem sb_listOf {O : Bool} : SB K (rListOf K) (dListOf O) := by
  intro p q Z vs xs μ F H QD Q rp rv lf h
  obtain ⟨x, ys, rfl, e, h⟩ := h
  cases rv with
  | cons r rr =>
    cases rr
    rcases e with e | ⟨ds, rfl, rfl⟩
    · obtain ⟨a, ws, rfl, ha, rw'⟩ := rp.its r e
      exact ⟨a, ws, rfl, .inl (SqL.of ha), fun l hl => new_list rp rw' lf h hl⟩
    · obtain ⟨a, ws, rfl, ha, rw'⟩ := tup_inv r
      exact ⟨a, ws, rfl, .inr (SqT.of (rp.fs _ _ ha)), fun l hl => new_list rp (DqAll.rvs rw') lf h hl⟩
theorem ty_own : ∀ p q Z v x μ F H, Rp K p q Z μ F H → RV K p F v x → ownT x μ → tyV K "list" v H := by
  intro p q Z v x μ F H rp rv ⟨xs, e⟩
  obtain ⟨a, vs, rfl, ha, _⟩ := rp.its rv e
  exact tyL ha
theorem sm_append : SM K "list" rAppend dAppend ownT := ⟨ty_own, by
  intro p q Z v x vs xs μ F H QD Q rp rv rvs lf h
  obtain ⟨l, ys, y, rfl, rfl, e, hl, h⟩ := h
  cases rv
  cases rvs with
  | cons r rr =>
    cases rr
    obtain ⟨_, _, _, ws, hw, rw'⟩ := rp.ow _ _ e
    exact ⟨l, ws, _, rfl, rfl, hw, by rw [(Paired.len rw')]; exact hl, lf _ _ _ _ _ (Same.refl _) (rp.setO e (Paired.app rw' (.cons r .nil))) rv_non h⟩⟩
theorem sm_extend : SM K "list" rExtend dExtend ownT := ⟨ty_own, by
  intro p q Z v x vs xs μ F H QD Q rp rv rvs lf h
  obtain ⟨l, ys, y, zs, rfl, rfl, e, e2, hl, h⟩ := h
  cases rv
  cases rvs with
  | cons r rr =>
    cases rr
    obtain ⟨_, _, _, ws, hw, rw'⟩ := rp.ow _ _ e
    obtain ⟨b, us, rfl, hb, ru⟩ := rp.its r e2
    exact ⟨l, b, ws, us, rfl, rfl, hw, hb, by rw [(Paired.len rw'), (Paired.len ru)]; exact hl, lf _ _ _ _ _ (Same.refl _) (rp.setO e (Paired.app rw' ru)) rv_non h⟩⟩
end
end L2

namespace L2
open PySem PySem.Spec PyProof.Rows
section
variable {K : PySem.W.Frag}
theorem isi_of {F H : Hp} {v : V} {d : PyData} {T : String} {b : Bool} (h : Dq K F v d ∨ ∃ ds, d = .list ds) (sm : Same F H) (hl : ∀ ds, d = .list ds → ∃ a xs, v = .ref a ∧ H a = some (.lst xs)) (ht : ∀ ds, d = .tuple ds → ∃ a xs, v = .ref a ∧ H a = some (.tup xs)) (e : isiD d T = some b) : Isi K H v T b := by
  unfold isiD at e
  split at e <;> first
    | (cases e; rcases h with h | ⟨ds, h⟩ <;> cases h; exact ⟨_, .int _, by first | (unfold PySem.W.kitOne; rfl) | kernel_rfl⟩)
    | (cases e; rcases h with h | ⟨ds, h⟩ <;> cases h; exact ⟨_, .bl _, by first | (unfold PySem.W.kitOne; rfl) | kernel_rfl⟩)
    | (cases e; rcases h with h | ⟨ds, h⟩ <;> cases h; exact ⟨_, .str _, by first | (unfold PySem.W.kitOne; rfl) | kernel_rfl⟩)
    | (cases e; rcases h with h | ⟨ds, h⟩ <;> cases h; exact ⟨_, .non, by first | (unfold PySem.W.kitOne; rfl) | kernel_rfl⟩)
    | (cases e; obtain ⟨a, xs, rfl, ha⟩ := hl _ rfl; exact ⟨_, .lst ha, by first | (unfold PySem.W.kitOne; rfl) | kernel_rfl⟩)
    | (cases e; obtain ⟨a, xs, rfl, ha⟩ := ht _ rfl; exact ⟨_, .tup ha, by first | (unfold PySem.W.kitOne; rfl) | kernel_rfl⟩)
    | (cases e; rcases h with h | ⟨ds, h⟩ <;> cases h; rename_i ha; exact ⟨_, .dK (sm _ _ ha), by first | (unfold PySem.W.kitOne; rfl) | kernel_rfl⟩)
    | (cases e)
theorem Rp.isi {p q : Addr} {Z F H : Hp} {μ : Mu} {v : V} {x : DV} {d : PyData} {T : String} {b : Bool} (rp : Rp K p q Z μ F H) (rv : RV K p F v x) (e : L2.dat μ x = some d) (h : isiD d T = some b) : Isi K H v T b := by
  have hh : Dq K F v d ∨ ∃ ds, d = .list ds := by
    cases x with
    | d y => cases e; exact .inl rv
    | r a =>
      unfold L2.dat at e
      cases m : μ.o a with
      | none => simp only [m] at e; cases e
      | some mo => cases mo with
        | dc o => simp only [m] at e; cases e
        | bx P xs => simp only [m] at e; cases e
        | own ys =>
          simp only [m] at e
          obtain ⟨ds, _, z⟩ := Option.map_eq_some_iff.mp e
          exact .inr ⟨ds, z.symm⟩
        | fz es => simp only [m] at e; cases e; exact .inr ⟨es, rfl⟩
    | pen => cases e
    | ty T => cases e
    | tv vs => cases e
    | ex c fs => cases e
    | fn n => cases e
  refine isi_of hh rp.fs (fun ds hd => ?_) (fun ds hd => ?_) h
  · subst hd
    have : ∃ xs, L2.its μ x = some xs := by
      cases x with
      | d y => cases e; exact ⟨_, rfl⟩
      | r a =>
        unfold L2.dat at e
        unfold L2.its
        cases m : μ.o a with
        | none => simp only [m] at e; cases e
        | some mo => cases mo with
          | dc o => simp only [m] at e; cases e
          | bx P xs => simp only [m] at e; cases e
          | own ys => exact ⟨ys, by simp only [m]⟩
          | fz es => exact ⟨es.map .d, by simp only [m]⟩
      | pen => cases e
      | ty T => cases e
      | tv vs => cases e
      | ex c fs => cases e
      | fn n => cases e
    obtain ⟨xs, hx⟩ := this
    obtain ⟨a, vs, h1, h2, _⟩ := rp.its rv hx
    exact ⟨a, vs, h1, h2⟩
  · subst hd
    cases x with
    | d y =>
      cases e
      obtain ⟨a, vs, h1, h2, _⟩ := tup_inv rv
      exact ⟨a, vs, h1, rp.fs _ _ h2⟩
    | r a =>
      unfold L2.dat at e
      cases m : μ.o a with
      | none => simp only [m] at e; cases e
      | some mo => cases mo with
        | dc o => simp only [m] at e; cases e
        | bx P xs => simp only [m] at e; cases e
        | own ys =>
          simp only [m] at e
          obtain ⟨_, _, z⟩ := Option.map_eq_some_iff.mp e
          cases z
        | fz es => simp only [m] at e; cases e
    | pen => cases e
    | ty T => cases e
    | tv vs => cases e
    | ex c fs => cases e
    | fn n => cases e
theorem sb_isi : SB K (rIsi K) dIsi := by
  intro p q Z vs xs μ F H QD Q rp rv lf h
  obtain ⟨x, T, d, b, rfl, e, e2, h⟩ := h
  cases rv with
  | cons r rr =>
    cases rr with
    | cons r2 rr2 =>
      cases rr2
      cases r2
      exact ⟨_, T, b, rfl, rp.isi r e e2, lf _ _ _ _ _ (Same.refl _) rp rv_bl h⟩
end
def SG (K : PySem.W.Frag) (g : TG) (dg : DG) : Prop := ∀ p q Z v x σ δ μ F H (QD : DSt → Mu → Prop) (Q : St → Hp → Prop), RS K p F σ δ → Rp K p q Z μ F H → RV K p F v x → (∀ σ' δ' μ' F' H', Same F F' → RS K p F' σ' δ' → Rp K p q Z μ' F' H' → QD δ' μ' → Q σ' H') → dg x δ μ QD → g v σ H Q
def SGs (K : PySem.W.Frag) (g : TGs) (dg : DGs) : Prop := ∀ p q Z vs xs σ δ μ F H (QD : DSt → Mu → Prop) (Q : St → Hp → Prop), RS K p F σ δ → Rp K p q Z μ F H → RVs K p F vs xs → (∀ σ' δ' μ' F' H', Same F F' → RS K p F' σ' δ' → Rp K p q Z μ' F' H' → QD δ' μ' → Q σ' H') → dg xs δ μ QD → g vs σ H Q
def hName (i : Nat) : DG := fun x δ μ Q => Q (δ.set i (some x)) μ
def hNil : DGs := fun xs δ μ Q => xs = [] ∧ Q δ μ
def hCons (t : DG) (u : DGs) : DGs := fun xs δ μ Q => ∃ x r, xs = x :: r ∧ t x δ μ fun δ' μ' => u r δ' μ' Q
def hTup (n : Nat) (t : DGs) : DG := fun x δ μ Q => ∃ ds, x = .d (.tuple ds) ∧ ds.length = n ∧ t (ds.map .d) δ μ Q
def hSub (o i : DE) : DG := fun v δ μ Q => o δ μ fun x μ1 => i δ μ1 fun y μ2 => ∃ l xs k j, x = .r l ∧ y = .d (.int k) ∧ μ2.o l = some (.own xs) ∧ ixN xs.length k = some j ∧ Q δ (μ2.put l (.own (xs.set j v)))
theorem hCons_c {t : DG} {u : DGs} {x : DV} {r : List DV} {δ : DSt} {μ : Mu} {Q : DSt → Mu → Prop} : hCons t u (x :: r) δ μ Q = t x δ μ (fun δ' μ' => u r δ' μ' Q) := by
  apply propext
  constructor
  · rintro ⟨x', r', e, h⟩; cases e; exact h
  · exact fun h => ⟨x, r, rfl, h⟩
theorem hNil_c {δ : DSt} {μ : Mu} {Q : DSt → Mu → Prop} : hNil [] δ μ Q = Q δ μ := propext ⟨fun ⟨_, h⟩ => h, fun h => ⟨rfl, h⟩⟩
section
variable {K : PySem.W.Frag}
theorem sg_name {i : Nat} : SG K (gName i) (hName i) := by
  intro p q Z v x σ δ μ F H QD Q rs rp rv lf h
  exact lf _ _ _ _ _ (Same.refl _) (Paired.set' (.inr ⟨v, x, rfl, rfl, rv⟩) i rs) rp h
theorem sgs_nil : SGs K gNil hNil := by
  intro p q Z vs xs σ δ μ F H QD Q rs rp rv lf h
  obtain ⟨rfl, h⟩ := h
  cases rv
  exact ⟨rfl, lf _ _ _ _ _ (Same.refl _) rs rp h⟩
theorem sgs_cons {t : TG} {u : TGs} {dt : DG} {du : DGs} (ht : SG K t dt) (hu : SGs K u du) : SGs K (gCons t u) (hCons dt du) := by
  intro p q Z vs xs σ δ μ F H QD Q rs rp rv lf h
  obtain ⟨x, r, rfl, h⟩ := h
  cases rv with
  | cons r1 r2 =>
    refine ⟨_, _, rfl, ht p q Z _ x σ δ μ F H _ _ rs rp r1 (fun σ' δ' μ' F' H' s' rs' rp' h' => ?_) h⟩
    exact hu p q Z _ _ σ' δ' μ' F' H' _ _ rs' rp' (RVs.same s' r2) (fun σ2 δ2 μ2 F2 H2 s2 => lf σ2 δ2 μ2 F2 H2 (s'.trans s2)) h'
theorem sg_tup {n : Nat} {t : TGs} {dt : DGs} (ht : SGs K t dt) : SG K (gTup K n t) (hTup n dt) := by
  intro p q Z v x σ δ μ F H QD Q rs rp rv lf h
  obtain ⟨ds, rfl, hl, h⟩ := h
  obtain ⟨a, vs, rfl, ha, hv⟩ := tup_inv rv
  have l := Paired.len (DqAll.rvs (p := p) hv)
  rw [List.length_map] at l
  exact ⟨a, vs, rfl, SqT.of (rp.fs _ _ ha), by omega, ht p q Z _ _ σ δ μ F H _ _ rs rp (DqAll.rvs hv) lf h⟩
end
structure LfS (K : PySem.W.Frag) (p q : Addr) (Z F : Hp) (DD : DEnds) (D : Ends) : Prop where
  nx : ∀ σ δ μ F' H', Same F F' → RS K p F' σ δ → Rp K p q Z μ F' H' → DD.nx δ μ → D.nx σ H'
  rt : Lf K p q Z F DD.rt D.rt
  bk : ∀ σ δ μ F' H', Same F F' → RS K p F' σ δ → Rp K p q Z μ F' H' → DD.bk δ μ → D.bk σ H'
  ct : ∀ σ δ μ F' H', Same F F' → RS K p F' σ δ → Rp K p q Z μ F' H' → DD.ct δ μ → D.ct σ H'
theorem LfS.same {K : PySem.W.Frag} {p q : Addr} {Z F F' : Hp} {DD : DEnds} {D : Ends} (h : LfS K p q Z F DD D) (s : Same F F') : LfS K p q Z F' DD D :=
  ⟨fun σ δ μ G H' s' => h.nx σ δ μ G H' (s.trans s'), h.rt.same s, fun σ δ μ G H' s' => h.bk σ δ μ G H' (s.trans s'), fun σ δ μ G H' s' => h.ct σ δ μ G H' (s.trans s')⟩
def SS (K : PySem.W.Frag) (ts : TS) (ds : DS) : Prop := ∀ p q Z σ δ μ F H DD D, RS K p F σ δ → Rp K p q Z μ F H → LfS K p q Z F DD D → ds DD δ μ → ts D σ H
def dNext : DS := fun D δ μ => D.nx δ μ
def dSeq (t u : DS) : DS := fun D δ μ => t { D with nx := u D } δ μ
def dBreak : DS := fun D δ μ => D.bk δ μ
def dCont : DS := fun D δ μ => D.ct δ μ
def dDrop (e : DE) : DS := fun D δ μ => e δ μ fun _ μ1 => D.nx δ μ1
def dRet (e : DE) : DS := fun D δ μ => e δ μ D.rt
def dRetN : DS := fun D _ μ => D.rt (.d .none) μ
def dIfS (c : DT) (t u : DS) : DS := fun D δ μ => c δ μ fun b μ1 => if b = true then t D δ μ1 else u D δ μ1
def dNever : DS := fun _ _ _ => False
def dAsg (e : DE) (g : DG) : DS := fun D δ μ => e δ μ fun x μ1 => g x δ μ1 D.nx
def FgS (I : DSt → Mu → Prop) (δ : DSt) (μ : Mu) : Prop := ∃ μ', Sub μ' μ ∧ I δ μ'
theorem FgS.refl {I : DSt → Mu → Prop} {δ : DSt} {μ : Mu} (h : I δ μ) : FgS I δ μ := ⟨μ, Sub.refl, h⟩
theorem FgS.of {I : DSt → Mu → Prop} {δ : DSt} {μ μ' : Mu} (s : Sub μ' μ) (h : I δ μ') : FgS I δ μ := ⟨μ', s, h⟩
def dWhile (c : DT) (b : DS) : DS := fun D δ μ => ∃ I : Nat → DSt → Mu → Prop, (∃ m, I m δ μ) ∧ ∀ m δ μ, I m δ μ → c δ μ fun k μ1 => if k = true then b { D with nx := FgS fun δ' μ' => ∃ m', m' < m ∧ I m' δ' μ', ct := FgS fun δ' μ' => ∃ m', m' < m ∧ I m' δ' μ', bk := D.nx } δ μ1 else D.nx δ μ1
section
variable {K : PySem.W.Frag}
theorem ss_next : SS K tNext dNext := fun p q Z σ δ μ F H DD D rs rp lf h => lf.nx _ _ _ _ _ (Same.refl _) rs rp h
theorem ss_seq {t u : TS} {dt du : DS} (ht : SS K t dt) (hu : SS K u du) : SS K (tSeq t u) (dSeq dt du) := by
  intro p q Z σ δ μ F H DD D rs rp lf h
  refine ht p q Z σ δ μ F H _ _ rs rp ?_ h
  exact ⟨fun σ' δ' μ' F' H' s' rs' rp' h' => hu p q Z σ' δ' μ' F' H' _ _ rs' rp' (lf.same s') h', lf.rt, lf.bk, lf.ct⟩
theorem ss_drop {te : TE} {de : DE} (he : SE K te de) : SS K (tDrop te) (dDrop de) := by
  intro p q Z σ δ μ F H DD D rs rp lf h
  exact he p q Z σ δ μ F H _ _ rs rp (fun v x μ1 F1 H1 s1 rp1 rv1 h1 => lf.nx _ _ _ _ _ s1 (rs.same s1) rp1 h1) h
theorem ss_ret {te : TE} {de : DE} (he : SE K te de) : SS K (tRet te) (dRet de) := by
  intro p q Z σ δ μ F H DD D rs rp lf h
  exact he p q Z σ δ μ F H _ _ rs rp lf.rt h
theorem ss_if {c : TT} {dc : DT} {t u : TS} {dt du : DS} (hc : ST K c dc) (ht : SS K t dt) (hu : SS K u du) : SS K (tIfS c t u) (dIfS dc dt du) := by
  intro p q Z σ δ μ F H DD D rs rp lf h
  refine hc p q Z σ δ μ F H _ _ rs rp (fun b μ1 F1 H1 s1 rp1 h1 => ?_) h
  cases b with
  | true => rw [if_pos rfl] at h1 ⊢; exact ht p q Z σ δ μ1 F1 H1 _ _ (rs.same s1) rp1 (lf.same s1) h1
  | false => rw [if_neg Bool.false_ne_true] at h1 ⊢; exact hu p q Z σ δ μ1 F1 H1 _ _ (rs.same s1) rp1 (lf.same s1) h1
theorem ss_asg {te : TE} {de : DE} {g : TG} {dg : DG} (he : SE K te de) (hg : SG K g dg) : SS K (tAsg te g) (dAsg de dg) := by
  intro p q Z σ δ μ F H DD D rs rp lf h
  refine he p q Z σ δ μ F H _ _ rs rp (fun v x μ1 F1 H1 s1 rp1 rv1 h1 => ?_) h
  exact hg p q Z v x σ δ μ1 F1 H1 _ _ (rs.same s1) rp1 rv1 (lf.same s1).nx h1
theorem ss_while {c : TT} {dc : DT} {b : TS} {db : DS} (hc : ST K c dc) (hb : SS K b db) : SS K (tWhile c b) (dWhile dc db) := by
  intro p q Z σ δ μ F H DD D rs rp lf h
  obtain ⟨I, ⟨m0, h0⟩, turn⟩ := h
  refine ⟨fun m σ' H' => ∃ δ' μ' F', Same F F' ∧ RS K p F' σ' δ' ∧ Rp K p q Z μ' F' H' ∧ I m δ' μ', ⟨m0, δ, μ, F, Same.refl _, rs, rp, h0⟩, ?_⟩
  rintro m σ1 H1 ⟨δ1, μ1, F1, s1, rs1, rp1, h1⟩
  refine hc p q Z σ1 δ1 μ1 F1 H1 _ _ rs1 rp1 (fun k μ2 F2 H2 s2 rp2 h2 => ?_) (turn m δ1 μ1 h1)
  cases k with
  | false => rw [if_neg Bool.false_ne_true] at h2 ⊢; exact lf.nx _ _ _ _ _ (s1.trans s2) (rs1.same s2) rp2 h2
  | true =>
    rw [if_pos rfl] at h2 ⊢
    refine ⟨fun σ' H' => ∃ m', m' < m ∧ ∃ δ' μ' F', Same F F' ∧ RS K p F' σ' δ' ∧ Rp K p q Z μ' F' H' ∧ I m' δ' μ', fun σ' H' ⟨m', hm, x⟩ => ⟨m', hm, x⟩, ?_⟩
    refine hb p q Z σ1 δ1 μ2 F2 H2 _ _ (rs1.same s2) rp2 ?_ h2
    exact ⟨fun σ' δ' μ' F' H' s' rs' rp' ⟨μ'', sb, m', hm, x⟩ => ⟨m', hm, δ', μ'', F', (s1.trans s2).trans s', rs', rp'.sub sb, x⟩, (lf.same (s1.trans s2)).rt, (lf.same (s1.trans s2)).nx, fun σ' δ' μ' F' H' s' rs' rp' ⟨μ'', sb, m', hm, x⟩ => ⟨m', hm, δ', μ'', F', (s1.trans s2).trans s', rs', rp'.sub sb, x⟩⟩
end
def ItOk (K : PySem.W.Frag) (p q : Addr) (J : It) (F : Hp) (xs : List DV) : Prop := ∀ Z μ F' H i, Same F F' → Rp K p q Z μ F' H →
  (∀ x, xs[i]? = some x → J.go i H ∧ ∀ v H', J.yld i H v H' → ∃ F'', Same F' F'' ∧ Rp K p q Z μ F'' H' ∧ RV K p F'' v x) ∧ (xs.length ≤ i → J.stop i H)
def SI (K : PySem.W.Frag) (ti : TI) (di : DI) : Prop := ∀ p q Z σ δ μ F H (RD : List DV → Mu → Prop) (R : It → Hp → Prop), RS K p F σ δ → Rp K p q Z μ F H → (∀ J xs μ1 F1 H1, Same F F1 → Rp K p q Z μ1 F1 H1 → ItOk K p q J F1 xs → RD xs μ1 → R J H1) → di δ μ RD → ti σ H R
/-- a list that stays (one's own is put to rest) -/
def jList (e : DE) : DI := fun δ μ R => dEsc e δ μ fun x μ1 => ∃ ds, x = .d (.list ds) ∧ R (ds.map .d) μ1
def jTup (e : DE) : DI := fun δ μ R => e δ μ fun x μ1 => ∃ ds, x = .d (.tuple ds) ∧ R (ds.map .d) μ1
def jStr (e : DE) : DI := fun δ μ R => e δ μ fun x μ1 => ∃ z : Str, x = .d (.str z) ∧ R (z.cps.toList.map fun c => .d (.str ⟨#[c]⟩)) μ1
def rgI (lo c : Int) (n : Nat) : List DV := (List.range n).map fun k : Nat => .d (.int (lo + (k : Int) * c))
def jRng1 (a : DA) : DI := fun δ μ R => a δ μ fun xs μ1 => ∃ j : Int, xs = [.d (.int j)] ∧ -(2 ^ 62) ≤ j ∧ j < 2 ^ 62 ∧ R (rgI 0 1 j.toNat) μ1
def jRng2 (a : DA) : DI := fun δ μ R => a δ μ fun xs μ1 => ∃ i j : Int, xs = [.d (.int i), .d (.int j)] ∧ (-(2 ^ 62) ≤ i ∧ i < 2 ^ 62 ∧ -(2 ^ 62) ≤ j ∧ j < 2 ^ 62) ∧ R (rgI i 1 (j - i).toNat) μ1
def jRng3 (a : DA) : DI := fun δ μ R => a δ μ fun xs μ1 => ∃ (i j c : Int) (n : Nat), xs = [.d (.int i), .d (.int j), .d (.int c)] ∧ RgC i j c n ∧ R (rgI i c n) μ1
def enI (ds : List PyData) : List DV := ds.mapIdx fun i d => .d (.tuple [.int i, d])
def jEnum (e : DE) : DI := fun δ μ R => dEsc e δ μ fun x μ1 => ∃ ds, x = .d (.list ds) ∧ R (enI ds) μ1
def zpI (ds es : List PyData) : List DV := (ds.zip es).map fun (d, e) => .d (.tuple [d, e])
def jZip (e f : DE) : DI := fun δ μ R => dEsc e δ μ fun x μ1 => dEsc f δ μ1 fun y μ2 => ∃ ds es, x = .d (.list ds) ∧ y = .d (.list es) ∧ R (zpI ds es) μ2
theorem rgI_at {lo c : Int} {n i : Nat} : (rgI lo c n)[i]? = if i < n then some (.d (.int (lo + (i : Int) * c))) else none := by
  unfold rgI
  rw [List.getElem?_map]
  by_cases h : i < n
  · rw [List.getElem?_range h, if_pos h]; rfl
  · rw [List.getElem?_eq_none (by simpa using h), if_neg h]; rfl
theorem rgI_len {lo c : Int} {n : Nat} : (rgI lo c n).length = n := by unfold rgI; simp
section
variable {K : PySem.W.Frag}
theorem si_list {te : TE} {de : DE} (he : SE K te de) : SI K (iList K te) (jList de) := by
  intro p q Z σ δ μ F H RD R rs rp lf h
  refine se_esc he p q Z σ δ μ F H _ _ rs rp (fun v x μ1 F1 H1 s1 rp1 rv1 h1 => ?_) h
  obtain ⟨ds, rfl, h1⟩ := h1
  cases rv1 with
  | lst hs ha =>
    rename_i a vs
    refine ⟨a, rfl, ⟨vs, SqL.of (rp1.fs _ _ hs)⟩, lf _ _ _ _ _ s1 rp1 (fun Z' μ' F' H' i s' rp' => ?_) h1⟩
    have hq : SqL K H' a vs := SqL.of (rp'.fs _ _ (s' _ _ hs))
    have rv := RVs.same s' (DqAll.rvs (p := p) ha)
    refine ⟨fun x hx => ?_, fun hl => ⟨vs, hq, by rw [Paired.len rv]; exact hl⟩⟩
    obtain ⟨v, hv, r⟩ := Paired.at rv hx
    refine ⟨⟨vs, v, hq, hv⟩, fun w H2 hy => ?_⟩
    obtain ⟨rfl, hy⟩ := hy
    have := hy vs hq
    rw [hv] at this
    cases this
    exact ⟨F', Same.refl _, rp', r⟩
theorem ok_rg {p q : Addr} {F : Hp} {lo c : Int} {n : Nat} {J : It} (hg : ∀ i H, i < n → J.go i H) (hy : ∀ i H v H', J.yld i H v H' → H' = H ∧ v = .int (lo + (i : Int) * c)) (hs : ∀ i H, n ≤ i → J.stop i H) : ItOk K p q J F (rgI lo c n) := by
  intro Z μ F' H i s' rp'
  refine ⟨fun x hx => ?_, fun hl => hs i H (by rw [rgI_len] at hl; exact hl)⟩
  rw [rgI_at] at hx
  by_cases hi : i < n
  · rw [if_pos hi] at hx
    cases hx
    refine ⟨hg i H hi, fun w H2 h => ?_⟩
    obtain ⟨rfl, rfl⟩ := hy i H w H2 h
    exact ⟨F', Same.refl _, rp', rv_int⟩
  · rw [if_neg hi] at hx; cases hx
theorem si_rng1 {ta : TA} {da : DA} (ha : SA K ta da) : SI K (iRng1 ta) (jRng1 da) := by
  intro p q Z σ δ μ F H RD R rs rp lf h
  refine ha p q Z σ δ μ F H _ _ rs rp (fun vs xs μ1 F1 H1 s1 rp1 rv1 h1 => ?_) h
  obtain ⟨j, rfl, j0, j1, h1⟩ := h1
  cases rv1 with
  | cons r rr =>
    cases rr; cases r
    exact ⟨j, rfl, j0, j1, lf _ _ _ _ _ s1 rp1 (ok_rg (fun _ _ h => h) (fun i H v H' ⟨a, b⟩ => ⟨a, by rw [b, Int.mul_one]⟩) (fun _ _ h => h)) h1⟩
theorem si_rng3 {ta : TA} {da : DA} (ha : SA K ta da) : SI K (iRng3 ta) (jRng3 da) := by
  intro p q Z σ δ μ F H RD R rs rp lf h
  refine ha p q Z σ δ μ F H _ _ rs rp (fun vs xs μ1 F1 H1 s1 rp1 rv1 h1 => ?_) h
  obtain ⟨i, j, c, n, rfl, j0, h1⟩ := h1
  cases rv1 with
  | cons r rr =>
    cases rr with
    | cons r2 rr2 =>
      cases rr2 with
      | cons r3 rr3 =>
        cases rr3; cases r; cases r2; cases r3
        exact ⟨i, j, c, n, rfl, j0, lf _ _ _ _ _ s1 rp1 (ok_rg (fun _ _ h => h) (fun i H v H' ⟨a, b⟩ => ⟨a, b⟩) (fun _ _ h => h)) h1⟩
theorem zpI_at {ds es : List PyData} {i : Nat} {x : DV} (h : (zpI ds es)[i]? = some x) : ∃ d e, ds[i]? = some d ∧ es[i]? = some e ∧ x = .d (.tuple [d, e]) := by
  unfold zpI at h
  rw [List.getElem?_map] at h
  obtain ⟨⟨d, e⟩, h1, rfl⟩ := Option.map_eq_some_iff.mp h
  obtain ⟨h2, h3⟩ := List.getElem?_zip_eq_some.mp h1
  exact ⟨d, e, h2, h3, rfl⟩
theorem zpI_len {ds es : List PyData} : (zpI ds es).length = min ds.length es.length := by unfold zpI; simp
theorem si_zip {te tf : TE} {de df : DE} (he : SE K te de) (hf : SE K tf df) : SI K (iZip K (tCons te (tCons tf tNil))) (jZip de df) := by
  intro p q Z σ δ μ F H RD R rs rp lf h
  refine se_esc he p q Z σ δ μ F H _ _ rs rp (fun v x μ1 F1 H1 s1 rp1 rv1 h1 => ?_) h
  refine se_esc hf p q Z σ δ μ1 F1 H1 _ _ (rs.same s1) rp1 (fun w y μ2 F2 H2 s2 rp2 rv2 h2 => ?_) h1
  obtain ⟨ds, es, rfl, rfl, h2⟩ := h2
  cases RV.same s2 rv1 with
  | lst hs ha =>
    cases rv2 with
    | lst ht hb =>
      rename_i a vs b ws
      refine ⟨a, b, vs, ws, rfl, SqL.of (rp2.fs _ _ hs), SqL.of (rp2.fs _ _ ht), lf _ _ _ _ _ (s1.trans s2) rp2 (fun Z' μ' F' H' i s' rp' => ?_) h2⟩
      have hq : SqL K H' a vs := SqL.of (rp'.fs _ _ (s' _ _ hs))
      have hr : SqL K H' b ws := SqL.of (rp'.fs _ _ (s' _ _ ht))
      have rv := RVs.same s' (DqAll.rvs (p := p) ha)
      have rw' := RVs.same s' (DqAll.rvs (p := p) hb)
      have l1 := Paired.len rv
      have l2 := Paired.len rw'
      rw [List.length_map] at l1 l2
      refine ⟨fun x hx => ?_, fun hl => ⟨vs, ws, hq, hr, by rw [zpI_len] at hl; omega⟩⟩
      obtain ⟨d, e, hd, hE, rfl⟩ := zpI_at hx
      obtain ⟨v, hv, r⟩ := Paired.at (y := .d d) rv (by rw [List.getElem?_map, hd]; rfl)
      obtain ⟨u, hu, r2⟩ := Paired.at (y := .d e) rw' (by rw [List.getElem?_map, hE]; rfl)
      refine ⟨⟨vs, ws, v, u, hq, hr, hv, hu⟩, fun w H2 hy => ?_⟩
      obtain ⟨T, x, y, rfl, hT, rfl, hy, hz⟩ := hy
      have e1 := hy vs hq
      have e2 := hz ws hr
      rw [hv] at e1
      rw [hu] at e2
      cases e1; cases e2
      obtain ⟨rp3, s3⟩ := rp'.newF (o := .tup [v, u]) hT
      exact ⟨_, s3, rp3, rv_d (.tup upd_same (.cons (Dq.same s3 _ _ r) (.cons (Dq.same s3 _ _ r2) .nil)))⟩
end
def DFo (xs : List DV) (g : DG) (b : DS) (D : DEnds) (δ : DSt) (μ : Mu) : Prop := ∃ I : Nat → DSt → Mu → Prop, I 0 δ μ ∧ (∀ i x δ μ, xs[i]? = some x → I i δ μ → g x δ μ fun δ2 μ2 => b { D with nx := FgS (I (i + 1)), ct := FgS (I (i + 1)), bk := D.nx } δ2 μ2) ∧ ∀ δ μ, I xs.length δ μ → D.nx δ μ
def dFor (di : DI) (g : DG) (b : DS) : DS := fun D δ μ => di δ μ fun xs μ1 => DFo xs g b D δ μ1
theorem ss_for {K : PySem.W.Frag} {ti : TI} {di : DI} {g : TG} {dg : DG} {b : TS} {db : DS} (hi : SI K ti di) (hg : SG K g dg) (hb : SS K b db) : SS K (tFor ti g b) (dFor di dg db) := by
  intro p q Z σ δ μ F H DD D rs rp lf h
  refine hi p q Z σ δ μ F H _ _ rs rp (fun J xs μ1 F1 H1 s1 rp1 ok h1 => ?_) h
  obtain ⟨I, h0, turn, fin⟩ := h1
  refine ⟨fun i m σ' H' => m = xs.length - i ∧ i ≤ xs.length ∧ ∃ δ' μ' F', Same F1 F' ∧ RS K p F' σ' δ' ∧ Rp K p q Z μ' F' H' ∧ I i δ' μ', ⟨xs.length, rfl, Nat.zero_le _, δ, μ1, F1, Same.refl _, rs.same s1, rp1, h0⟩, ?_⟩
  rintro i m σ2 H2 ⟨rfl, hi, δ2, μ2, F2, s2, rs2, rp2, h2⟩
  obtain ⟨o1, o2⟩ := ok Z μ2 F2 H2 i s2 rp2
  by_cases hlt : i < xs.length
  · obtain ⟨go, yl⟩ := o1 xs[i] (List.getElem?_eq_getElem hlt)
    refine .inr ⟨go, fun σ' H' => i < xs.length ∧ ∃ δ' μ' F', Same F1 F' ∧ RS K p F' σ' δ' ∧ Rp K p q Z μ' F' H' ∧ I (i + 1) δ' μ', fun σ' H' ⟨_, x⟩ => ⟨xs.length - (i + 1), by omega, rfl, hlt, x⟩, fun v H3 hy => ?_⟩
    obtain ⟨F3, s3, rp3, rv3⟩ := yl v H3 hy
    refine hg p q Z v _ σ2 δ2 μ2 F3 H3 _ _ (rs2.same s3) rp3 rv3 (fun σ4 δ4 μ4 F4 H4 s4 rs4 rp4 h4 => ?_) (turn i _ δ2 μ2 (List.getElem?_eq_getElem hlt) h2)
    have sa : Same F1 F4 := (s2.trans s3).trans s4
    refine hb p q Z σ4 δ4 μ4 F4 H4 _ _ rs4 rp4 ?_ h4
    exact ⟨fun σ' δ' μ' F' H' s' rs' rp' ⟨μ'', sb, x⟩ => ⟨hlt, δ', μ'', F', sa.trans s', rs', rp'.sub sb, x⟩, (lf.same (s1.trans sa)).rt, (lf.same (s1.trans sa)).nx, fun σ' δ' μ' F' H' s' rs' rp' ⟨μ'', sb, x⟩ => ⟨hlt, δ', μ'', F', sa.trans s', rs', rp'.sub sb, x⟩⟩
  · have e : i = xs.length := by omega
    subst e
    exact .inl ⟨o2 (Nat.le_refl _), lf.nx _ _ _ _ _ (s1.trans s2) rs2 rp2 (fin _ _ h2)⟩
def dwipe (δ : DSt) : List Nat → DSt
  | [] => δ
  | v :: vs => (dwipe δ vs).set v none
theorem rs_wipe {K : PySem.W.Frag} {p : Addr} {F : Hp} {σ : St} {δ : DSt} (h : RS K p F σ δ) : ∀ vs, RS K p F (wipe σ vs) (dwipe δ vs)
  | [] => h
  | v :: vs => Paired.set' (.inl rfl) v (rs_wipe h vs)
/-- the target stores the comprehension's names alone -/
def GW (g : TG) (vs : List Nat) : Prop := ∀ v σ H Q, g v σ H Q → g v σ H fun σ2 H2 => wipe σ2 vs = wipe σ vs ∧ Q σ2 H2
def GWs (g : TGs) (vs : List Nat) : Prop := ∀ us σ H Q, g us σ H Q → g us σ H fun σ2 H2 => wipe σ2 vs = wipe σ vs ∧ Q σ2 H2
theorem wipe_get {σ : St} : ∀ {vs : List Nat} {i : Nat}, (wipe σ vs)[i]? = if i ∈ vs then σ[i]?.map (fun _ => none) else σ[i]?
  | [], i => by simp [wipe]
  | v :: vs, i => by
    unfold wipe
    rw [List.getElem?_set]
    have ih := wipe_get (σ := σ) (vs := vs) (i := i)
    by_cases h : v = i
    · subst h
      rw [if_pos rfl, wipe_length]
      simp only [List.mem_cons, true_or, if_true]
      by_cases hl : v < σ.length
      · rw [if_pos hl, List.getElem?_eq_getElem hl]; rfl
      · rw [if_neg hl, List.getElem?_eq_none (by omega)]; rfl
    · rw [if_neg h, ih]
      simp only [List.mem_cons, show ¬ i = v from fun e => h e.symm, false_or]
theorem wipe_set {σ : St} {vs : List Nat} {i : Nat} {x : Option V} (h : i ∈ vs) : wipe (σ.set i x) vs = wipe σ vs := by
  apply List.ext_getElem?
  intro j
  rw [wipe_get, wipe_get, List.getElem?_set]
  by_cases hj : i = j
  · subst hj
    rw [if_pos h, if_pos h]
    by_cases hl : i < σ.length
    · rw [if_pos rfl, if_pos hl, List.getElem?_eq_getElem hl]; rfl
    · rw [if_pos rfl, if_neg hl, List.getElem?_eq_none (by omega)]
  · rw [if_neg hj]
theorem wipe_wipe {σ : St} {vs : List Nat} : wipe (wipe σ vs) vs = wipe σ vs := by
  apply List.ext_getElem?
  intro j
  rw [wipe_get, wipe_get]
  by_cases h : j ∈ vs
  · rw [if_pos h, if_pos h]
    cases σ[j]? <;> rfl
  · rw [if_neg h]
theorem gw_name {i : Nat} {vs : List Nat} (h : i ∈ vs := by decide) : GW (gName i) vs := fun v σ H Q q => ⟨wipe_set h, q⟩
theorem gws_nil {vs : List Nat} : GWs gNil vs := fun us σ H Q ⟨e, q⟩ => ⟨e, rfl, q⟩
theorem gws_cons {t : TG} {u : TGs} {vs : List Nat} (mt : ∀ v σ H (Q Q' : St → Hp → Prop), (∀ a b, Q a b → Q' a b) → t v σ H Q → t v σ H Q') (mu : ∀ v σ H (Q Q' : St → Hp → Prop), (∀ a b, Q a b → Q' a b) → u v σ H Q → u v σ H Q') (ht : GW t vs) (hu : GWs u vs) : GWs (gCons t u) vs := by
  rintro us σ H Q ⟨v, r, rfl, h⟩
  refine ⟨v, r, rfl, mt _ _ _ _ _ (fun σ2 H2 ⟨e, q⟩ => ?_) (ht v σ H _ h)⟩
  exact mu _ _ _ _ _ (fun σ3 H3 ⟨e3, q3⟩ => ⟨e3.trans e, q3⟩) (hu r σ2 H2 _ q)
def TGm (t : TG) : Prop := ∀ v σ H (Q Q' : St → Hp → Prop), (∀ a b, Q a b → Q' a b) → t v σ H Q → t v σ H Q'
def TGsm (t : TGs) : Prop := ∀ v σ H (Q Q' : St → Hp → Prop), (∀ a b, Q a b → Q' a b) → t v σ H Q → t v σ H Q'
theorem gm_name {i : Nat} : TGm (gName i) := fun v σ H Q Q' h q => h _ _ q
theorem gm_nil : TGsm gNil := fun v σ H Q Q' h ⟨e, q⟩ => ⟨e, h _ _ q⟩
theorem gm_cons {t : TG} {u : TGs} (mt : TGm t) (mu : TGsm u) : TGsm (gCons t u) := fun v σ H Q Q' h ⟨a, r, e, q⟩ => ⟨a, r, e, mt _ _ _ _ _ (fun _ _ q => mu _ _ _ _ _ h q) q⟩
theorem gw_tup {K : PySem.W.Frag} {n : Nat} {t : TGs} {vs : List Nat} (ht : GWs t vs) : GW (gTup K n t) vs := fun v σ H Q ⟨a, xs, e, s, l, q⟩ => ⟨a, xs, e, s, l, ht _ _ _ _ q⟩
theorem GW.use {g : TG} {vs : List Nat} (h : GW g vs) {v : V} {σ : St} {H : Hp} {Q : St → Hp → Prop} (q : g v (wipe σ vs) H Q) : g v (wipe σ vs) H fun σ2 H2 => wipe σ2 vs = wipe σ vs ∧ Q σ2 H2 := by
  have := h v (wipe σ vs) H Q q
  rw [wipe_wipe] at this
  exact this
def DLc (xs : List DV) (g : DG) (t : DT) (e : DE) (vs : List Nat) (δ : DSt) (μ : Mu) (Q : List DV → Mu → Prop) : Prop := ∃ I : Nat → List DV → Mu → Prop, I 0 [] μ ∧ (∀ i x acc μ, xs[i]? = some x → I i acc μ → g x (dwipe δ vs) μ fun δ2 μ2 => t δ2 μ2 fun b μ3 => if b = true then e δ2 μ3 fun y μ4 => I (i + 1) (acc ++ [y]) μ4 else I (i + 1) acc μ3) ∧ ∀ acc μ, I xs.length acc μ → Q acc μ
def dLc (O : Bool) (di : DI) (g : DG) (t : DT) (e : DE) (vs : List Nat) : DE := fun δ μ Q => di δ μ fun xs μ1 => xs.length ≤ sizeLine ∧ DLc xs g t e vs δ μ1 fun acc μ2 => if O = true then ∀ l, μ2.o l = none → Q (.r l) (μ2.put l (.own acc)) else ∃ ds, unD acc = some ds ∧ Q (.d (.list ds)) μ2
theorem se_lc {K : PySem.W.Frag} {O : Bool} {ti : TI} {di : DI} {g : TG} {dg : DG} {tt : TT} {dt : DT} {te : TE} {de : DE} {vs : List Nat} (hi : SI K ti di) (hg : SG K g dg) (hw : GW g vs) (ht : ST K tt dt) (he : SE K te de) : SE K (tLc ti g tt te vs) (dLc O di dg dt de vs) := by
  intro p q Z σ δ μ F H QD Q rs rp lf h
  refine hi p q Z σ δ μ F H _ _ rs rp (fun J xs μ1 F1 H1 s1 rp1 ok h1 => ?_) h
  obtain ⟨hsz, I, h0, turn, fin⟩ := h1
  intro D hD
  have zD : Z D = none := rp1.zs.free hD
  refine ⟨fun i m H' => m = xs.length - i ∧ i ≤ xs.length ∧ ∃ us acc μ' F', Same F1 F' ∧ Rp K p q (upd Z D (.lst us)) μ' F' H' ∧ RVs K p F' us acc ∧ acc.length ≤ i ∧ I i acc μ', ⟨xs.length, rfl, Nat.zero_le _, [], [], μ1, F1, Same.refl _, rp1.frame hD, .nil, Nat.le_refl _, h0⟩, ?_⟩
  rintro i m H2 ⟨rfl, hi, us, acc, μ2, F2, s2, rp2, rv2, la, h2⟩
  obtain ⟨o1, o2⟩ := ok _ μ2 F2 H2 i s2 rp2
  by_cases hlt : i < xs.length
  · obtain ⟨go, yl⟩ := o1 xs[i] (List.getElem?_eq_getElem hlt)
    refine .inr ⟨go, fun H' => ∃ us acc μ' F', Same F1 F' ∧ Rp K p q (upd Z D (.lst us)) μ' F' H' ∧ RVs K p F' us acc ∧ acc.length ≤ i + 1 ∧ I (i + 1) acc μ', fun H' x => ⟨xs.length - (i + 1), by omega, rfl, hlt, x⟩, fun v H3 hy => ?_⟩
    obtain ⟨F3, s3, rp3, rv3⟩ := yl v H3 hy
    have rsw : RS K p F3 (wipe σ vs) (dwipe δ vs) := (rs_wipe ((rs.same s1).same s2) vs).same s3
    refine GW.use hw ?_
    refine hg p q (upd Z D (.lst us)) v _ (wipe σ vs) (dwipe δ vs) μ2 F3 H3 _ _ rsw rp3 rv3 ?_ (turn i _ acc μ2 (List.getElem?_eq_getElem hlt) h2)
    intro σ4 δ4 μ4 F4 H4 s4 rs4 rp4 h4
    refine ht p q _ σ4 δ4 μ4 F4 H4 _ _ rs4 rp4 (fun b μ5 F5 H5 s5 rp5 h5 => ?_) h4
    have sb : Same F1 F5 := ((s2.trans s3).trans s4).trans s5
    have rv5 : RVs K p F5 us acc := RVs.same ((s3.trans s4).trans s5) rv2
    cases b with
    | false => rw [if_neg Bool.false_ne_true] at h5 ⊢; exact ⟨us, acc, μ5, F5, sb, rp5, rv5, Nat.le_succ_of_le la, h5⟩
    | true =>
      rw [if_pos rfl] at h5 ⊢
      refine he p q _ σ4 δ4 μ5 F5 H5 _ _ (rs4.same s5) rp5 (fun w y μ6 F6 H6 s6 rp6 rv6 h6 => ?_) h5
      refine ⟨us, rp6.at_frame, ?_, us ++ [w], acc ++ [y], μ6, F6, sb.trans s6, rp6.reframe, Paired.app (RVs.same s6 rv5) (.cons rv6 .nil), by rw [List.length_append]; exact Nat.add_le_add_right la 1, h6⟩
      rw [Paired.len rv5]; omega
  · have e : i = xs.length := by omega
    subst e
    refine .inl ⟨o2 (Nat.le_refl _), ?_⟩
    have hf := fin _ _ h2
    cases O with
    | true =>
      rw [if_pos rfl] at hf
      exact lf _ _ _ _ _ (s1.trans s2) (rp2.frameO zD rv2) rv_r (hf D (rp2.zf _ _ upd_same).2.1)
    | false =>
      rw [if_neg Bool.false_ne_true] at hf
      obtain ⟨ds, e, hf⟩ := hf
      rw [unD_some e] at rv2
      obtain ⟨rp3, s3⟩ := rp2.frameF zD
      exact lf _ _ _ _ _ ((s1.trans s2).trans s3) rp3 (rv_d (.lst upd_same (DqAll.same s3 _ _ (RVs.all rv2)))) hf
end L2

namespace L2
open PySem PySem.Spec PyProof.Rows
def spOf (K : PySem.W.Frag) (dp : DSp) : Sp := fun vs H Q _ => ∃ p q Z xs μ F QD, Rp K p q Z μ F H ∧ RVs K p F vs xs ∧ Lf K p q Z F QD Q ∧ dp xs μ QD
theorem sc_of {K : PySem.W.Frag} {dp : DSp} : SC K (spOf K dp) dp := fun p q Z vs xs μ F H QD Q E rp rv lf h => ⟨p, q, Z, xs, μ, F, QD, rp, rv, lf, h⟩
theorem len_of {K : PySem.W.Frag} {dp : DSp} {n : Nat} (h : ∀ xs μ QD, dp xs μ QD → xs.length = n) {vs : List V} {H : Hp} {Q : VK} {E : XK} (s : spOf K dp vs H Q E) : vs.length = n := by
  obtain ⟨p, q, Z, xs, μ, F, QD, rp, rv, lf, d⟩ := s
  rw [Paired.len rv]; exact h _ _ _ d
def dstart (N : List Str) (xs : List DV) : DSt := xs.map some ++ List.replicate (N.length - xs.length) none
theorem rs_start {K : PySem.W.Frag} {p : Addr} {F : Hp} {N : List Str} {vs : List V} {xs : List DV} (h : RVs K p F vs xs) : RS K p F (start N vs) (dstart N xs) := by
  unfold start dstart
  rw [Paired.len h]
  refine Paired.app ?_ ?_
  · clear N
    induction h with
    | nil => exact .nil
    | cons a _ ih => exact .cons (.inr ⟨_, _, rfl, rfl, a⟩) ih
  · generalize N.length - xs.length = k
    induction k with
    | zero => exact .nil
    | succ k ih => exact .cons (.inl rfl) ih
def Fg (QD : DQ) : DQ := fun x μ => ∃ μ', Sub μ' μ ∧ QD x μ'
theorem Fg.refl {QD : DQ} {x : DV} {μ : Mu} (h : QD x μ) : Fg QD x μ := ⟨μ, Sub.refl, h⟩
theorem Fg.of {QD : DQ} {x : DV} {μ μ' : Mu} (s : Sub μ' μ) (h : QD x μ') : Fg QD x μ := ⟨μ', s, h⟩
def dEnds (QD : DQ) : DEnds := { nx := fun _ μ => Fg QD (.d .none) μ, rt := Fg QD }
theorem rdd_of {K : PySem.W.Frag} {dp : DSp} {B : TS} {D : DS} {N : List Str} {vs : List V} {H : Hp} {Q : VK} {E : XK} (so : SS K B D) (rd : ∀ xs μ QD, dp xs μ QD → D (dEnds QD) (dstart N xs) μ) (h : spOf K dp vs H Q E) : B { nx := fun _ H' => Q .non H', rt := Q } (start N vs) H := by
  obtain ⟨p, q, Z, xs, μ, F, QD, rp, rv, lf, d⟩ := h
  refine so p q Z _ _ μ F H _ _ (rs_start rv) rp ?_ (rd xs μ QD d)
  exact ⟨fun σ δ μ' F' H' s' rs' rp' ⟨μ'', sb, x⟩ => lf _ _ _ _ _ s' (rp'.sub sb) rv_non x, fun v x μ' F' H' s' rp' rv ⟨μ'', sb, y⟩ => lf _ _ _ _ _ s' (rp'.sub sb) rv y, fun _ _ _ _ _ _ _ _ x => x, fun _ _ _ _ _ _ _ _ x => x⟩
def dp_take : DSp := fun xs μ Q => ∃ u : Int, xs = [.pen, .d (.int u)] ∧ μ.n < 1000000 ∧ 0 < u ∧ u < 1073741824 ∧ ∀ r : Int, 0 ≤ r → r < u → Q (.d (.int r)) (μ.at (μ.n + 1))
theorem sc_take {K : PySem.W.Frag} : SC K (sp_take K) dp_take := by
  intro p q Z vs xs μ F H QD Q E rp rv lf h
  obtain ⟨u, rfl, hn, h0, h1, h⟩ := h
  cases rv with
  | cons r1 rr =>
    cases rr with
    | cons r2 rr2 =>
      cases rr2; cases r1; cases r2
      exact ⟨p, q, u, μ.n, rfl, rp.pn, hn, h0, h1, fun r H' g0 g1 pn kp => lf _ _ _ _ _ (Same.refl _) (rp.drawn pn kp) rv_int (h r g0 g1)⟩
def mu0 : Mu := ⟨0, fun _ => none⟩
/-- the law: the pen, then the rest -/
theorem law_of {K : PySem.W.Frag} {rest : TS} {D : DS} {k : Nat} (so : SS K rest D) (rd : D { nx := fun _ _ => False, rt := fun x _ => x = .d (.bool true) } (none :: some .pen :: List.replicate k none) mu0) {a : Addr} {H : Hp} {Q : VK} (ns : List Int) (hS : SqL K H a (ns.map V.int)) (hl : ns.length ≤ 63) (hQ : ∀ H', Q (.bl true) H') :
    tSeq (tAsg (tCall (sp_pen K) [] E0 (tCons (tVar 0) tNil)) (gName 1)) rest { nx := fun _ H' => Q .non H', rt := Q } (some (.ref a) :: none :: List.replicate k none) H := by
  refine ⟨_, rfl, a, ns, rfl, hS, hl, fun p q H1 _ _ pn s1 => ?_⟩
  refine so p q (fun _ => none) _ _ mu0 (fun _ => none) H1 _ _ (show RS K p (fun _ => none) (some (.ref a) :: some (.ref p) :: List.replicate k none) (none :: some .pen :: List.replicate k none) from ?_) ⟨fun b o e => (nomatch e), fun b o e => (nomatch e), fun b o e => (nomatch e), fun b o e => (nomatch e), fun b o e => (nomatch e), pn, rfl, rfl, fun b o e => (nomatch e), fun b P xs e => (nomatch e)⟩ ?_ rd
  · refine .cons (.inl rfl) (.cons (.inr ⟨_, _, rfl, rfl, rfl⟩) ?_)
    clear rd so
    induction k with
    | zero => exact .nil
    | succ k ih => exact .cons (.inl rfl) ih
  · refine ⟨fun _ _ _ _ _ _ _ _ x => x.elim, fun v x μ F' H' _ _ rv e => ?_, fun _ _ _ _ _ _ _ _ x => x, fun _ _ _ _ _ _ _ _ x => x⟩
    subst e
    cases rv
    exact hQ _
section
variable {g : DG} {b : DS} {D : DEnds} {δ : DSt} {μ : Mu} {t : DT} {e : DE} {vs : List Nat} {Q : List DV → Mu → Prop}
theorem DFo.range {lo c : Int} {n : Nat} (I : Nat → DSt → Mu → Prop) (h0 : I 0 δ μ) (hs : ∀ i δ μ, i < n → I i δ μ → g (.d (.int (lo + (i : Int) * c))) δ μ fun δ2 μ2 => b { D with nx := FgS (I (i + 1)), ct := FgS (I (i + 1)), bk := D.nx } δ2 μ2) (hd : ∀ δ μ, I n δ μ → D.nx δ μ) : DFo (rgI lo c n) g b D δ μ := by
  refine ⟨I, h0, fun i x δ μ hx hi => ?_, fun δ μ h => hd δ μ (by rw [rgI_len] at h; exact h)⟩
  rw [rgI_at] at hx
  by_cases h : i < n
  · rw [if_pos h] at hx; cases hx; exact hs i δ μ h hi
  · rw [if_neg h] at hx; cases hx
theorem DFo.map {α : Type} {f : α → DV} {xs : List α} (I : Nat → DSt → Mu → Prop) (h0 : I 0 δ μ) (hs : ∀ i x δ μ, xs[i]? = some x → I i δ μ → g (f x) δ μ fun δ2 μ2 => b { D with nx := FgS (I (i + 1)), ct := FgS (I (i + 1)), bk := D.nx } δ2 μ2) (hd : ∀ δ μ, I xs.length δ μ → D.nx δ μ) : DFo (xs.map f) g b D δ μ := by
  refine ⟨I, h0, fun i x δ μ hx hi => ?_, fun δ μ h => hd δ μ (by rw [List.length_map] at h; exact h)⟩
  rw [List.getElem?_map] at hx
  obtain ⟨y, hy, rfl⟩ := Option.map_eq_some_iff.mp hx
  exact hs i y δ μ hy hi
theorem DFo.map2 {α : Type} {f : α → PyData} {xs : List α} (I : Nat → DSt → Mu → Prop) (h0 : I 0 δ μ) (hs : ∀ i x δ μ, xs[i]? = some x → I i δ μ → g (.d (f x)) δ μ fun δ2 μ2 => b { D with nx := FgS (I (i + 1)), ct := FgS (I (i + 1)), bk := D.nx } δ2 μ2) (hd : ∀ δ μ, I xs.length δ μ → D.nx δ μ) : DFo ((xs.map f).map DV.d) g b D δ μ := by
  rw [List.map_map]; exact DFo.map I h0 hs hd
theorem DLc.range {lo c : Int} {n : Nat} (I : Nat → List DV → Mu → Prop) (h0 : I 0 [] μ) (hs : ∀ i acc μ, i < n → I i acc μ → g (.d (.int (lo + (i : Int) * c))) (dwipe δ vs) μ fun δ2 μ2 => t δ2 μ2 fun b μ3 => if b = true then e δ2 μ3 fun y μ4 => I (i + 1) (acc ++ [y]) μ4 else I (i + 1) acc μ3) (hd : ∀ acc μ, I n acc μ → Q acc μ) : DLc (rgI lo c n) g t e vs δ μ Q := by
  refine ⟨I, h0, fun i x acc μ hx hi => ?_, fun acc μ h => hd acc μ (by rw [rgI_len] at h; exact h)⟩
  rw [rgI_at] at hx
  by_cases h : i < n
  · rw [if_pos h] at hx; cases hx; exact hs i acc μ h hi
  · rw [if_neg h] at hx; cases hx
theorem DLc.map {α : Type} {f : α → DV} {xs : List α} (I : Nat → List DV → Mu → Prop) (h0 : I 0 [] μ) (hs : ∀ i x acc μ, xs[i]? = some x → I i acc μ → g (f x) (dwipe δ vs) μ fun δ2 μ2 => t δ2 μ2 fun b μ3 => if b = true then e δ2 μ3 fun y μ4 => I (i + 1) (acc ++ [y]) μ4 else I (i + 1) acc μ3) (hd : ∀ acc μ, I xs.length acc μ → Q acc μ) : DLc (xs.map f) g t e vs δ μ Q := by
  refine ⟨I, h0, fun i x acc μ hx hi => ?_, fun acc μ h => hd acc μ (by rw [List.length_map] at h; exact h)⟩
  rw [List.getElem?_map] at hx
  obtain ⟨y, hy, rfl⟩ := Option.map_eq_some_iff.mp hx
  exact hs i y acc μ hy hi
theorem take_next {α : Type} {xs : List α} {i : Nat} {x : α} (h : xs[i]? = some x) : xs.take (i + 1) = xs.take i ++ [x] := by rw [List.take_add_one, h]; rfl
theorem DLc.pure {α : Type} {f : α → DV} {xs : List α} (φ : α → DV) (hs : ∀ (i : Nat) (x : α) (P N : DQ), xs[i]? = some x → P (φ x) μ → g (f x) (dwipe δ vs) μ fun δ2 μ2 => t δ2 μ2 fun b μ3 => if b = true then e δ2 μ3 P else N (.d .none) μ3) (hd : Q (xs.map φ) μ) : DLc (xs.map f) g t e vs δ μ Q := by
  refine DLc.map (fun i acc μ' => μ' = μ ∧ acc = (xs.take i).map φ) ⟨rfl, rfl⟩ ?_ ?_
  · rintro i x acc μ' hx ⟨rfl, rfl⟩
    refine hs i x _ (fun _ μ3 => μ3 = μ' ∧ (xs.take i).map φ = (xs.take (i + 1)).map φ) hx ⟨rfl, ?_⟩
    rw [take_next hx, List.map_append]; rfl
  · rintro acc μ' ⟨rfl, rfl⟩
    rw [List.take_length]; exact hd
theorem DLc.pureR {lo c : Int} {n : Nat} (φ : Nat → DV) (hs : ∀ (i : Nat) (P N : DQ), i < n → P (φ i) μ → g (.d (.int (lo + (i : Int) * c))) (dwipe δ vs) μ fun δ2 μ2 => t δ2 μ2 fun b μ3 => if b = true then e δ2 μ3 P else N (.d .none) μ3) (hd : Q ((List.range n).map φ) μ) : DLc (rgI lo c n) g t e vs δ μ Q := by
  unfold rgI
  refine DLc.pure φ (fun i x P N hx hp => ?_) hd
  have hi := (List.getElem?_eq_some_iff.mp hx).1
  have he : x = i := by
    have h2 := (List.getElem?_eq_some_iff.mp hx).2
    rw [List.getElem_range] at h2; exact h2.symm
  subst he
  exact hs x P N (by simpa using hi) hp
/-- items that are drawn: each of them is such a one -/
theorem DLc.draw {α : Type} {f : α → DV} {xs : List α} {β : Type} (ψ : β → DV) (C : β → Prop) (k : Nat) (hk : ∀ (m i : Nat) (x : α) (P N : DQ), xs[i]? = some x → μ.n ≤ m → m ≤ μ.n + k * i → (∀ y m', C y → m' ≤ m + k → m ≤ m' → P (ψ y) (μ.at m')) → g (f x) (dwipe δ vs) (μ.at m) fun δ2 μ2 => t δ2 μ2 fun b μ3 => if b = true then e δ2 μ3 P else N (.d .none) μ3) (hd : ∀ (ys : List β) (m : Nat), ys.length = xs.length → (∀ y ∈ ys, C y) → μ.n ≤ m → m ≤ μ.n + k * xs.length → Q (ys.map ψ) (μ.at m)) : DLc (xs.map f) g t e vs δ μ Q := by
  refine DLc.map (fun i acc μ' => ∃ (ys : List β) (m : Nat), μ' = μ.at m ∧ acc = ys.map ψ ∧ ys.length = i ∧ (∀ y ∈ ys, C y) ∧ μ.n ≤ m ∧ m ≤ μ.n + k * i) ⟨[], μ.n, rfl, rfl, rfl, by simp, Nat.le_refl _, by omega⟩ ?_ ?_
  · rintro i x acc μ' hx ⟨ys, m, rfl, rfl, hl, hC, h1, h2⟩
    refine hk m i x _ (fun _ μ3 => ∃ (zs : List β) (m' : Nat), μ3 = μ.at m' ∧ ys.map ψ = zs.map ψ ∧ zs.length = i + 1 ∧ (∀ y ∈ zs, C y) ∧ μ.n ≤ m' ∧ m' ≤ μ.n + k * (i + 1)) hx h1 h2 fun y m' hy h3 h4 => ?_
    refine ⟨ys ++ [y], m', rfl, by rw [List.map_append]; rfl, by rw [List.length_append, hl]; rfl, fun z hz => ?_, by omega, by rw [Nat.mul_add]; omega⟩
    rcases List.mem_append.mp hz with h | h
    · exact hC z h
    · rw [List.mem_singleton] at h; subst h; exact hy
  · rintro acc μ' ⟨ys, m, rfl, rfl, hl, hC, h1, h2⟩
    exact hd ys m hl hC h1 h2
theorem DLc.drawR {lo c : Int} {n : Nat} {β : Type} (ψ : β → DV) (C : β → Prop) (k : Nat) (hk : ∀ (m i : Nat) (P N : DQ), i < n → μ.n ≤ m → m ≤ μ.n + k * i → (∀ y m', C y → m' ≤ m + k → m ≤ m' → P (ψ y) (μ.at m')) → g (.d (.int (lo + (i : Int) * c))) (dwipe δ vs) (μ.at m) fun δ2 μ2 => t δ2 μ2 fun b μ3 => if b = true then e δ2 μ3 P else N (.d .none) μ3) (hd : ∀ (ys : List β) (m : Nat), ys.length = n → (∀ y ∈ ys, C y) → μ.n ≤ m → m ≤ μ.n + k * n → Q (ys.map ψ) (μ.at m)) : DLc (rgI lo c n) g t e vs δ μ Q := by
  unfold rgI
  refine DLc.draw ψ C k (fun m i x P N hx h1 h2 hP => ?_) (fun ys m h hC a1 a2 => hd ys m (by simpa using h) hC a1 (by simpa using a2))
  have hi := (List.getElem?_eq_some_iff.mp hx).1
  have he : x = i := by
    have h2 := (List.getElem?_eq_some_iff.mp hx).2
    rw [List.getElem_range] at h2; exact h2.symm
  subst he
  exact hk m x P N (by simpa using hi) h1 h2 hP
end
end L2

namespace L2
open PySem PySem.Spec PyProof.Rows
def dAug (i : Nat) (e : DE) (f : Int → Int → Int) : DS := fun D δ μ => ∃ x, δ[i]? = some (some x) ∧ e δ μ fun y μ1 => ∃ a b, x = .d (.int a) ∧ y = .d (.int b) ∧ D.nx (δ.set i (some (.d (.int (f a b))))) μ1
def rStrI : List V → Hp → VK → Prop := fun xs H Q => ∃ i, xs = [.int i] ∧ i.natAbs.log2 < 1920 ∧ Q (.str (toString i)) H
def dStrI : DR1 := fun xs μ Q => ∃ i : Int, xs = [.d (.int i)] ∧ i.natAbs.log2 < 1920 ∧ Q (.d (.str (toString i))) μ
def dIntS : DR1 := fun xs μ Q => ∃ a n, xs = [.d (.str a)] ∧ PySem.intText? a = some n ∧ a.length ≤ 640 ∧ Q (.d (.int n)) μ
def dOrd : DR1 := fun xs μ Q => ∃ x : Str, xs = [.d (.str x)] ∧ x.length = 1 ∧ Q (.d (.int (x.cps.getD 0 0 : Nat))) μ
def rJoin (K : PySem.W.Frag) : V → List V → Hp → VK → Prop := fun x xs H Q => ∃ a p, ∃ ys : List Str, x = .str a ∧ xs = [.ref p] ∧ (SqL K H p (ys.map V.str) ∨ SqT K H p (ys.map V.str)) ∧ (ys.map (·.length)).sum + ys.length * a.length ≤ 16777216 ∧ Q (.str (Txt.join a ys)) H
def dJoin (o e : DE) : DE := fun δ μ Q => o δ μ fun x μ1 => (∃ a, x = .d (.str a)) ∧ e δ μ1 fun y μ2 => ∃ a, ∃ ys : List Str, x = .d (.str a) ∧ its μ2 y = some (ys.map fun s => .d (.str s)) ∧ (ys.map (·.length)).sum + ys.length * a.length ≤ 16777216 ∧ Q (.d (.str (Txt.join a ys))) μ2
def dInS (neg : Bool) : DR2 := fun x y μ Q => ∃ (c : Nat) (z : Str), x = .d (.str ⟨#[c]⟩) ∧ y = .d (.str z) ∧ Q (.d (.bool (if neg then !decide (c ∈ z.cps.toList) else decide (c ∈ z.cps.toList)))) μ
def dCmpS (f : Str → Str → Bool) : DR2 := fun x y μ Q => ∃ i j, x = .d (.str i) ∧ y = .d (.str j) ∧ Q (.d (.bool (f i j))) μ
def dSum : DR1 := fun xs μ Q => ∃ x, ∃ ns : List Int, xs = [x] ∧ its μ x = some (ns.map fun n => .d (.int n)) ∧ Q (.d (.int ns.sum)) μ
def dMin : DR1 := fun xs μ Q => ∃ x, ∃ ns : List Int, xs = [x] ∧ its μ x = some (ns.map fun n => .d (.int n)) ∧ 0 < ns.length ∧ ∀ m, m ∈ ns → (∀ y, y ∈ ns → m ≤ y) → Q (.d (.int m)) μ
def dAll : DR1 := fun xs μ Q => ∃ x, ∃ bs : List Bool, xs = [x] ∧ its μ x = some (bs.map fun n => .d (.bool n)) ∧ Q (.d (.bool (bs.all id))) μ
def dAny : DR1 := fun xs μ Q => ∃ x, ∃ bs : List Bool, xs = [x] ∧ its μ x = some (bs.map fun n => .d (.bool n)) ∧ Q (.d (.bool (bs.any id))) μ
section
variable {K : PySem.W.Frag}
theorem sb_strI : SB K rStrI dStrI := by
  intro p q Z vs xs μ F H QD Q rp rv lf h
  obtain ⟨i, rfl, hl, h⟩ := h
  cases rv with
  | cons r rr => cases rr; cases r; exact ⟨i, rfl, hl, lf _ _ _ _ _ (Same.refl _) rp rv_str h⟩
theorem strs_inv {p : Addr} {F : Hp} : ∀ {vs : List V} {ys : List Str}, RVs K p F vs (ys.map fun s => .d (.str s)) → vs = ys.map V.str
  | _, [], h => by cases h; rfl
  | _, y :: ys, h => by
    cases h with
    | cons a b => cases a; rw [strs_inv b]; rfl
theorem ints_inv {p : Addr} {F : Hp} : ∀ {vs : List V} {ys : List Int}, RVs K p F vs (ys.map fun s => .d (.int s)) → vs = ys.map V.int
  | _, [], h => by cases h; rfl
  | _, y :: ys, h => by
    cases h with
    | cons a b => cases a; rw [ints_inv b]; rfl
theorem se_join {to te : TE} {dO de : DE} (ho : SE K to dO) (he : SE K te de) : SE K (tM1 (rJoin K) to te) (dJoin dO de) := by
  intro p q Z σ δ μ F H QD Q rs rp lf h
  refine ho p q Z σ δ μ F H _ _ rs rp (fun v x μ1 F1 H1 s1 rp1 rv1 h1 => ?_) h
  obtain ⟨⟨a, rfl⟩, h1⟩ := h1
  cases rv1
  refine ⟨⟨a, rfl⟩, he p q Z σ δ μ1 F1 H1 _ _ (rs.same s1) rp1 (fun w y μ2 F2 H2 s2 rp2 rv2 h2 => ?_) h1⟩
  obtain ⟨a', ys, e, e2, hl, h2⟩ := h2
  cases e
  obtain ⟨b, ws, rfl, hb, rw'⟩ := rp2.its rv2 e2
  rw [strs_inv rw'] at hb
  exact ⟨a, b, ys, rfl, rfl, .inl (SqL.of hb), hl, lf _ _ _ _ _ (s1.trans s2) rp2 rv_str h2⟩
theorem sb_min : SB K (rMin K) dMin := by
  intro p q Z vs xs μ F H QD Q rp rv lf h
  obtain ⟨x, ns, rfl, e, h0, h⟩ := h
  cases rv with
  | cons r rr =>
    cases rr
    obtain ⟨a, ws, rfl, ha, rw'⟩ := rp.its r e
    rw [ints_inv rw'] at ha
    exact ⟨a, ns, rfl, SqL.of ha, h0, fun m h1 h2 => lf _ _ _ _ _ (Same.refl _) rp rv_int (h m h1 h2)⟩
end
end L2

namespace L2
open PySem PySem.Spec PyProof.Rows
def CDivW (i j : Int) : Prop := 0 < j ∧ j < 18446744073709551616
theorem op_fdivW {X : Cx} : OpR X (binaryOp .FloorDiv) (rI CDivW fun i j => .int (i / j)) := opI fun i j _ _ _ _ _ hc q => by
  have h1 : (0 : Int) < j := hc.1
  have h2 : j < 18446744073709551616 := hc.2
  have hl : j.natAbs.log2 < 64 := (Nat.log2_lt (by omega)).mpr (by omega)
  exact floordiv_int (by omega) (by rw [Int.fdiv_eq_ediv_of_nonneg i (by omega)]; exact q) (.inl (PyProof.noPylong_of_log2 (by omega)))
def sp_takeW (K : PySem.W.Frag) : Sp := fun vs H Q _ => ∃ (p q : Addr) (u : Int) (n : Nat), vs = [.ref p, .int u] ∧ PenAt H p q n ∧ n < 1000000 ∧ 0 < u ∧ u < 4611686018427387904 ∧ ∀ r H', 0 ≤ r → r < u → PenAt H' p q (n + 1) → Keep p H H' → Q (.int r) H'
def dp_takeW : DSp := fun xs μ Q => ∃ u : Int, xs = [.pen, .d (.int u)] ∧ μ.n < 1000000 ∧ 0 < u ∧ u < 4611686018427387904 ∧ ∀ r : Int, 0 ≤ r → r < u → Q (.d (.int r)) (μ.at (μ.n + 1))
theorem sc_takeW {K : PySem.W.Frag} : SC K (sp_takeW K) dp_takeW := by
  intro p q Z vs xs μ F H QD Q E rp rv lf h
  obtain ⟨u, rfl, hn, h0, h1, h⟩ := h
  cases rv with
  | cons r1 rr =>
    cases rr with
    | cons r2 rr2 =>
      cases rr2; cases r1; cases r2
      exact ⟨p, q, u, μ.n, rfl, rp.pn, hn, h0, h1, fun r H' g0 g1 pn kp => lf _ _ _ _ _ (Same.refl _) (rp.drawn pn kp) rv_int (h r g0 g1)⟩
def gP {α : Type} (na : Nat) (is : List Nat) (us ws : List α) : List α := if us.length = na ∧ ws.length = is.length then us ++ is.filterMap (ws[·]?) else []
theorem pick_rel {α β : Type} {P : α → β → Prop} {xs : List α} {ys : List β} (h : Paired P xs ys) : ∀ is : List Nat, Paired P (is.filterMap (xs[·]?)) (is.filterMap (ys[·]?))
  | [] => .nil
  | i :: is => by
    rw [List.filterMap_cons, List.filterMap_cons]
    cases e : ys[i]? with
    | none =>
      have : xs[i]? = none := by rw [List.getElem?_eq_none_iff] at e ⊢; rw [Paired.len h]; exact e
      rw [this]
      exact pick_rel h is
    | some y =>
      obtain ⟨x, hx, r⟩ := Paired.at h e
      rw [hx]
      exact .cons r (pick_rel h is)
theorem gP_rel {K : PySem.W.Frag} {na : Nat} {is : List Nat} (p : Addr) (F : Hp) (vs ws : List V) (xs ys : List DV) (h1 : RVs K p F vs xs) (h2 : RVs K p F ws ys) : RVs K p F (gP na is vs ws) (gP na is xs ys) := by
  unfold gP
  rw [Paired.len h1, Paired.len h2]
  split
  · exact Paired.app h1 (pick_rel h2 is)
  · exact .nil
theorem kbindsP_mk {K : PySem.W.Frag} {fd : FuncData} {ps ks : List Str} {na : Nat} {is : List Nat} (h1 : ps.length = na + is.length) (h2 : ks.length = is.length) (h0 : 0 < ps.length)
    (h : ∀ us ws : List Value, us.length = na → ws.length = is.length → bindArgs fd ⟨us, ks.zip ws⟩ = pure (ps.zip (us ++ is.filterMap (ws[·]?)))) : KBinds K fd ps ks (gP na is) (gP na is) where
  to := fun s us ws _ hl => by
    unfold gP at hl ⊢
    split at hl
    · rename_i e
      rw [if_pos e]
      exact .of_eq (h us ws e.1 e.2)
    · simp at hl; omega
  rel := fun {vs us zs ws} r q => by
    unfold gP
    rw [r.length, q.length]
    split
    · exact r.append (pick_rel q is)
    · exact .nil
section
variable {X : Cx} {x : Str} {k : Nat} {ps ks : List Str} {sp : Sp} {BF : FuncData → Prop} {e : Expr} {es : List Expr} {kws : List Keyword} {t tk : TA} {p pos : Pos} {g : List Value → List Value → List Value} {gV : List V → List V → List V}
theorem pe_calK0' (C : CalW X.prog X.w X.K X.mg X.base x k ps sp BF) (hb : ∀ fd, BF fd → KBinds X.K fd ps ks g gV) (hr : Room k X.A) (hg : Gl X x) (hkw : PK X kws tk)
    (hall : (backToKw pos (keywordEach kws X.env)).all (·.1.isSome) = true := by rfl) (hks : (backToKw pos (keywordEach kws X.env)).filterMap (·.1) = ks := by rfl)
    (hdb : (x == ("__debug__" : Str)) = false := by decide)
    (hpl : ((backTo pos (starEach [] X.env)).any (·.1) || (backToKw pos (keywordEach kws X.env)).any (·.1.isNone)) = false := by rfl) :
    PE X (.Call (.Name x p) [] kws pos) (tCallK sp gV E0 tNil tk) := by
  obtain ⟨f, fd, G, m, kp, b⟩ := C
  intro pins s σ H Q I h
  refine wpAny_Call_Name_kw (ld_glob I hg m ?_ hdb)
  refine PySem.W.callWith_KW0 (h₀ := X.base) I.ok.mod.kin kp hall ?_ hpl
  refine thn (hkw pos pins s σ H _ I h) fun ws s2 ⟨zs, H2, I2, rz, q2⟩ => ⟨I2.kIn, ?_⟩
  rw [hks]
  exact run_fnk (us := []) G hr (hb fd b) pass0 I2 .nil rz q2
end
def repS (z : Str) (n : Nat) : Str := ⟨(List.replicate n z.cps.toList).flatten.toArray⟩
def dRepS : DR2 := fun x y μ Q => ∃ z k, x = .d (.str z) ∧ y = .d (.int k) ∧ 0 ≤ k ∧ k < 1000000 ∧ z.length * k.toNat ≤ 1000000 ∧ Q (.d (.str (repS z k.toNat))) μ
end L2

namespace L2
open PySem PySem.Spec PyProof.Rows
theorem tk {μ : Mu} {Q : DQ} {u : Int} (hn : μ.n < 1000000) (h0 : 0 < u) (h1 : u < 4611686018427387904) (h : ∀ r : Int, 0 ≤ r → r < u → Q (.d (.int r)) (μ.at (μ.n + 1))) : dp_takeW [.pen, .d (.int u)] μ Q := ⟨u, rfl, hn, h0, h1, h⟩
theorem unD_mapf {α : Type} (f : α → PyData) (xs : List α) : unD (xs.map fun i => .d (f i)) = some (xs.map f) := by
  have := unD_map (xs.map f)
  rw [List.map_map] at this
  exact this
theorem dsi_int_int {i : Int} : isiD (.int i) "int" = some true := rfl
theorem dsi_int_bool {i : Int} : isiD (.int i) "bool" = some false := rfl
theorem dsi_int_list {i : Int} : isiD (.int i) "list" = some false := rfl
theorem dsi_int_tuple {i : Int} : isiD (.int i) "tuple" = some false := rfl
theorem dsi_int_str {i : Int} : isiD (.int i) "str" = some false := rfl
theorem dsi_bool_int {i : Bool} : isiD (.bool i) "int" = some true := rfl
theorem dsi_bool_bool {i : Bool} : isiD (.bool i) "bool" = some true := rfl
theorem dsi_bool_list {i : Bool} : isiD (.bool i) "list" = some false := rfl
theorem dsi_bool_tuple {i : Bool} : isiD (.bool i) "tuple" = some false := rfl
theorem dsi_bool_str {i : Bool} : isiD (.bool i) "str" = some false := rfl
theorem dsi_str_int {i : Str} : isiD (.str i) "int" = some false := rfl
theorem dsi_str_bool {i : Str} : isiD (.str i) "bool" = some false := rfl
theorem dsi_str_list {i : Str} : isiD (.str i) "list" = some false := rfl
theorem dsi_str_tuple {i : Str} : isiD (.str i) "tuple" = some false := rfl
theorem dsi_str_str {i : Str} : isiD (.str i) "str" = some true := rfl
theorem dsi_none_int  : isiD .none "int" = some false := rfl
theorem dsi_none_bool  : isiD .none "bool" = some false := rfl
theorem dsi_none_list  : isiD .none "list" = some false := rfl
theorem dsi_none_tuple  : isiD .none "tuple" = some false := rfl
theorem dsi_none_str  : isiD .none "str" = some false := rfl
theorem dsi_list_int {i : List PyData} : isiD (.list i) "int" = some false := rfl
theorem dsi_list_bool {i : List PyData} : isiD (.list i) "bool" = some false := rfl
theorem dsi_list_list {i : List PyData} : isiD (.list i) "list" = some true := rfl
theorem dsi_list_tuple {i : List PyData} : isiD (.list i) "tuple" = some false := rfl
theorem dsi_list_str {i : List PyData} : isiD (.list i) "str" = some false := rfl
theorem dsi_dict_int {i : List (PyData × PyData)} : isiD (.dict i) "int" = some false := rfl
theorem dsi_dict_bool {i : List (PyData × PyData)} : isiD (.dict i) "bool" = some false := rfl
theorem dsi_dict_list {i : List (PyData × PyData)} : isiD (.dict i) "list" = some false := rfl
theorem dsi_dict_tuple {i : List (PyData × PyData)} : isiD (.dict i) "tuple" = some false := rfl
theorem dsi_dict_str {i : List (PyData × PyData)} : isiD (.dict i) "str" = some false := rfl
theorem dsi_tuple_int {i : List PyData} : isiD (.tuple i) "int" = some false := rfl
theorem dsi_tuple_bool {i : List PyData} : isiD (.tuple i) "bool" = some false := rfl
theorem dsi_tuple_list {i : List PyData} : isiD (.tuple i) "list" = some false := rfl
theorem dsi_tuple_tuple {i : List PyData} : isiD (.tuple i) "tuple" = some true := rfl
theorem dsi_tuple_str {i : List PyData} : isiD (.tuple i) "str" = some false := rfl
theorem lenV_l {μ : Mu} {ds : List PyData} : lenV μ (.d (.list ds)) = some ds.length := rfl
theorem lenV_t {μ : Mu} {ds : List PyData} : lenV μ (.d (.tuple ds)) = some ds.length := rfl
theorem lenV_s {μ : Mu} {z : Str} : lenV μ (.d (.str z)) = if z.length ≤ sizeLine then some z.length else none := rfl
theorem lenV_r {μ : Mu} {a : Addr} {xs : List DV} (h : μ.o a = some (.own xs)) : lenV μ (.r a) = some xs.length := by show (its μ (.r a)).map List.length = _; rw [its_own h]; rfl
theorem lenV_f {μ : Mu} {a : Addr} {ds : List PyData} (h : μ.o a = some (.fz ds)) : lenV μ (.r a) = some ds.length := by show (its μ (.r a)).map List.length = _; rw [its_fz h]; simp
theorem its_po {μ : Mu} {a : Addr} {xs : List DV} : its (μ.put a (.own xs)) (.r a) = some xs := its_own Mu.put_same
theorem its_pf {μ : Mu} {a : Addr} {ds : List PyData} : its (μ.put a (.fz ds)) (.r a) = some (ds.map .d) := its_fz Mu.put_same
theorem dat_pf {μ : Mu} {a : Addr} {ds : List PyData} : dat (μ.put a (.fz ds)) (.r a) = some (.list ds) := dat_fz Mu.put_same
theorem dat_po {μ : Mu} {a : Addr} {xs : List DV} : dat (μ.put a (.own xs)) (.r a) = (unD xs).map .list := by simp only [dat, Mu.put_same]
theorem lenV_po {μ : Mu} {a : Addr} {xs : List DV} : lenV (μ.put a (.own xs)) (.r a) = some xs.length := lenV_r Mu.put_same
theorem lenV_pf {μ : Mu} {a : Addr} {ds : List PyData} : lenV (μ.put a (.fz ds)) (.r a) = some ds.length := lenV_f Mu.put_same
theorem ixN_nat {n j : Nat} (h : j < n) : ixN n (j : Int) = some j := by
  unfold ixN
  rw [if_pos (by omega), if_pos (by omega)]; rfl
theorem atI_nat' {α : Type} {xs : List α} {i : Int} {j : Nat} {x : α} (e : i = j) (h : xs[j]? = some x) : atI xs i = some x := by
  have hl := (List.getElem?_eq_some_iff.mp h).1
  subst e
  unfold atI
  rw [ixN_nat hl]
  exact h
theorem atI_mem {α : Type} {xs : List α} {i : Int} (h0 : 0 ≤ i) (h1 : i < xs.length) : ∃ z, atI xs i = some z ∧ z ∈ xs := by
  have hl : i.toNat < xs.length := by omega
  exact ⟨xs[i.toNat], atI_nat' (j := i.toNat) (by omega) (List.getElem?_eq_getElem hl), List.getElem_mem hl⟩
theorem eqv_ii {i j : Int} : PyData.eqv (.int i) (.int j) = decide (i = j) := by
  unfold PyData.eqv; rfl
theorem eqv_bb {i j : Bool} : PyData.eqv (.bool i) (.bool j) = (i == j) := by
  unfold PyData.eqv; cases i <;> cases j <;> rfl
theorem shaped_int {i : Int} : SeqAt.shaped (.int i) = true := by rfl
theorem shaped_bool {i : Bool} : SeqAt.shaped (.bool i) = true := by rfl
theorem shaped_none : SeqAt.shaped .none = true := by rfl
/-- one of some written numbers -/
theorem pk {ns : List Int} {i : Int} (P : Int → Prop) (h0 : 0 ≤ i) (h1 : i < ns.length) (h : ∀ n ∈ ns, P n) : ∃ n, atI (ns.map fun n => DV.d (.int n)) i = some (.d (.int n)) ∧ P n := by
  obtain ⟨z, e, hz⟩ := atI_mem h0 h1
  exact ⟨z, by rw [atI_map, e]; rfl, h z hz⟩
theorem eqv_nil : PyData.eqv (.list []) (.list []) = true := rfl
def rEqS (neg : Bool) : R2 := fun x y H Q => ∃ a b, x = .str a ∧ y = .str b ∧ Q (.bl (if neg then !decide (a = b) else decide (a = b))) H
def dEqS (neg : Bool) : DR2 := fun x y μ Q => ∃ a b, x = .d (.str a) ∧ y = .d (.str b) ∧ Q (.d (.bool (if neg then !decide (a = b) else decide (a = b)))) μ
theorem op_neS {X : Cx} : OpR X (compareOp .NotEq) (rEqS true) := by
  intro pins s σ H x y v u Q I rx ry h
  obtain ⟨a, b, rfl, rfl, q⟩ := h
  have e : decide (V.str a = V.str b) = decide (a = b) := by simp only [V.str.injEq]
  refine op_ne pins s σ H _ _ v u Q I rx ry ⟨rfl, ?_⟩
  rw [e]; exact q
theorem sr_eqS {K : PySem.W.Frag} {neg : Bool} : SR K (rEqS neg) (dEqS neg) := by
  intro p q Z v w x y μ F H QD Q rp r1 r2 lf h
  obtain ⟨c, z, rfl, rfl, h⟩ := h
  cases r1; cases r2
  exact ⟨c, z, rfl, rfl, lf _ _ _ _ _ (Same.refl _) rp rv_bl h⟩
end L2

namespace L2
open PySem PySem.Spec PyProof.Rows
def bc (b : Bool) : Nat := if b then 49 else 48
def bt (bs : List Bool) : Str := ⟨(bs.map bc).toArray⟩
def b2n (b : Bool) : Nat := if b then 1 else 0
def vl (bs : List Bool) : Nat := bs.foldl (fun a b => 2 * a + b2n b) 0
def btn (n : Nat) : Nat → List Bool
  | 0 => []
  | m + 1 => decide (n / 2 ^ m % 2 = 1) :: btn n m
theorem bt_toList {bs : List Bool} : (bt bs).cps.toList = bs.map bc := rfl
theorem bt_len {bs : List Bool} : (bt bs).length = bs.length := by show (bs.map bc).toArray.size = _; simp
theorem bt_inj {as bs : List Bool} (h : bt as = bt bs) : as = bs := by
  have h2 : as.map bc = bs.map bc := by rw [← bt_toList, ← bt_toList, h]
  refine List.map_inj_right (f := bc) ?_ |>.mp h2
  intro x y e
  cases x <;> cases y <;> first | rfl | (exact absurd e (by decide))
theorem bt_app {as bs : List Bool} : bt as ++ bt bs = bt (as ++ bs) := by
  show Str.append _ _ = _
  unfold bt Str.append
  simp
theorem btn_len {n : Nat} : ∀ m : Nat, (btn n m).length = m
  | 0 => rfl
  | m + 1 => by rw [btn, List.length_cons, btn_len m]
theorem fold_btn (n : Nat) : ∀ (m a : Nat), (btn n m).foldl (fun a b => 2 * a + b2n b) a = a * 2 ^ m + n % 2 ^ m
  | 0, a => by simp [btn, Nat.mod_one]
  | m + 1, a => by
    rw [btn, List.foldl_cons, fold_btn n m, Nat.pow_succ, Nat.mod_mul]
    have hd : b2n (decide (n / 2 ^ m % 2 = 1)) = n / 2 ^ m % 2 := by
      have : n / 2 ^ m % 2 < 2 := Nat.mod_lt _ (by decide)
      by_cases h : n / 2 ^ m % 2 = 1
      · rw [h]; rfl
      · have h0 : n / 2 ^ m % 2 = 0 := by omega
        rw [h0]; rfl
    rw [hd, Nat.add_mul, Nat.mul_comm (2 ^ m) (n / 2 ^ m % 2), Nat.mul_assoc 2 a, Nat.mul_comm 2, Nat.mul_assoc]
    omega
theorem vl_btn {n m : Nat} (h : n < 2 ^ m) : vl (btn n m) = n := by
  unfold vl; rw [fold_btn, Nat.zero_mul, Nat.zero_add, Nat.mod_eq_of_lt h]
theorem vl_lt : ∀ bs : List Bool, vl bs < 2 ^ bs.length := by
  intro bs
  suffices h : ∀ (bs : List Bool) (a : Nat), bs.foldl (fun a b => 2 * a + b2n b) a < (a + 1) * 2 ^ bs.length by
    have := h bs 0
    rw [Nat.zero_add, Nat.one_mul] at this
    exact this
  intro bs
  induction bs with
  | nil => intro a; simp
  | cons b bs ih =>
    intro a
    rw [List.foldl_cons, List.length_cons, Nat.pow_succ]
    have h1 := ih (2 * a + b2n b)
    have h2 : 2 * a + b2n b + 1 ≤ (a + 1) * 2 := by cases b <;> simp [b2n] <;> omega
    have h3 := Nat.mul_le_mul_right (2 ^ bs.length) h2
    have h4 : (a + 1) * 2 * 2 ^ bs.length = (a + 1) * (2 ^ bs.length * 2) := by rw [Nat.mul_assoc, Nat.mul_comm 2]
    exact Nat.lt_of_lt_of_le h1 (h4 ▸ h3)
open TL in
theorem joinL_nil : ∀ ps : List (List Nat), joinL [] ps = ps.flatten
  | [] => rfl
  | [p] => by simp [joinL]
  | p :: q :: r => by
    have := joinL_nil (q :: r)
    show p ++ ([] ++ joinL [] (q :: r)) = _
    rw [this]; rfl
open TL in
theorem join_bt (ps : List (List Bool)) : Txt.join (Str.ofString "") (ps.map bt) = bt ps.flatten := by
  rw [join_eq]
  apply ext_toList
  have := tl_join (Str.ofString "") (ps.map bt)
  have e : tl (Str.ofString "") = [] := by decide +kernel
  rw [e, joinL_nil] at this
  show tl _ = tl _
  rw [this]
  show ((ps.map bt).map tl).flatten = ps.flatten.map bc
  rw [List.map_map, List.map_flatten]
  rfl
def cs (b : Bool) : Str := ⟨#[bc b]⟩
theorem str_bit (k : Nat) : (Str.ofString (toString (((k % 2 : Nat) : Int)))) = cs (decide (k % 2 = 1)) := by
  have h : k % 2 < 2 := Nat.mod_lt _ (by decide)
  rcases (by omega : k % 2 = 0 ∨ k % 2 = 1) with e | e
  · rw [e]; decide +kernel
  · rw [e]; decide +kernel
end L2

namespace L2
open PySem PySem.Spec PyProof.Rows
theorem fold_vl : ∀ (c : List Bool) (a : Nat), c.foldl (fun a b => 2 * a + b2n b) a = a * 2 ^ c.length + vl c
  | [], a => by simp [vl]
  | b :: c, a => by
    rw [List.foldl_cons, fold_vl c]
    have : vl (b :: c) = (2 * 0 + b2n b) * 2 ^ c.length + vl c := by
      unfold vl
      rw [List.foldl_cons]
      exact fold_vl c _
    rw [this, List.length_cons, Nat.pow_succ, Nat.add_mul, Nat.mul_zero, Nat.zero_add, Nat.mul_comm 2 a, Nat.mul_assoc, Nat.mul_comm 2]
    omega
theorem vl_cons (b : Bool) (c : List Bool) : vl (b :: c) = b2n b * 2 ^ c.length + vl c := by
  show (b :: c).foldl _ 0 = _
  rw [List.foldl_cons, fold_vl]; simp
def lN (ns : List Nat) : PyData := .list (ns.map fun n : Nat => PyData.int n)
end L2

namespace L2
open PySem PySem.Spec PyProof.Rows
section
variable {K : PySem.W.Frag} {p q : Addr} {Z : Hp} {μ : Mu} {F H : Hp}
end
def kKV (kvs : List (Int × Int)) : List (Key × V) := kvs.map fun kv => (Sum.inl kv.1, V.int kv.2)
def dDct (kvs : List (Int × Int)) (e : DE) : DE := fun δ μ Q => e δ μ fun x μ1 => ∃ k v, x = .d (.int k) ∧ valV (mergeK [] (kKV kvs)) (Sum.inl k) = some (.int v) ∧ Q (.d (.int v)) μ1
def dCatTU : DR2 := fun x y μ Q => ∃ ds es, x = .d (.tuple ds) ∧ y = .d (.tuple es) ∧ ds.length + es.length ≤ sizeLine ∧ Q (.d (.tuple (ds ++ es))) μ
end L2

namespace L2
open PySem PySem.Spec PyProof.Rows HT
/-- the items that a slice of a tuple picks -/
def slB (lo hi : Option Int) (c : Int) (n : Nat) : Int × Nat := ((Builtin.Slice.sliceAdjust lo hi c n).1, Builtin.Slice.slicePlaces (Builtin.Slice.sliceAdjust lo hi c n).1 (Builtin.Slice.sliceAdjust lo hi c n).2 c)
def pickT {α : Type} (xs : List α) (lo hi st : Option Int) : List α := (List.range (slB lo hi (st.getD 1) xs.length).2).filterMap fun k : Nat => xs[((slB lo hi (st.getD 1) xs.length).1 + (k : Int) * st.getD 1).toNat]?
section
variable {prog : Program} {w : World} {A : Around} {E : Value → Shared → Prop} {s : Shared}
end
def dSl3T (a : DE) (l h s : DO) : DE := fun δ μ Q => a δ μ fun x μ1 => l δ μ1 fun lo μ2 => h δ μ2 fun hi μ3 => s δ μ3 fun st μ4 => ∃ ds, x = .d (.tuple ds) ∧ st ≠ some 0 ∧ (pickT ds lo hi st).length ≤ sizeLine ∧ Q (.d (.tuple (pickT ds lo hi st))) μ4
def dSlTU (a : DE) (l h : DO) : DE := dSl3T a l h dNoPart
end L2

namespace L2
open PySem PySem.Spec PyProof.Rows
def DFoL (x : DV) (xs : List DV) (g : DG) (b : DS) (D : DEnds) (δ : DSt) (μ : Mu) : Prop := ∃ I : Nat → DSt → Mu → Prop, I 0 δ μ ∧ (∀ i δ μ, I i δ μ → its μ x = some xs) ∧ (∀ i y δ μ, xs[i]? = some y → I i δ μ → g y δ μ fun δ2 μ2 => b { D with nx := FgS (I (i + 1)), ct := FgS (I (i + 1)), bk := D.nx } δ2 μ2) ∧ ∀ δ μ, I xs.length δ μ → D.nx δ μ
def dForL (e : DE) (g : DG) (b : DS) : DS := fun D δ μ => e δ μ fun x μ1 => ∃ xs, its μ1 x = some xs ∧ DFoL x xs g b D δ μ1
theorem DFoL.map {α : Type} {f : α → DV} {xs : List α} {x : DV} {g : DG} {b : DS} {D : DEnds} {δ : DSt} {μ : Mu} (I : Nat → DSt → Mu → Prop) (h0 : I 0 δ μ) (hk : ∀ i δ μ, I i δ μ → its μ x = some (xs.map f)) (hs : ∀ i y δ μ, xs[i]? = some y → I i δ μ → g (f y) δ μ fun δ2 μ2 => b { D with nx := FgS (I (i + 1)), ct := FgS (I (i + 1)), bk := D.nx } δ2 μ2) (hd : ∀ δ μ, I xs.length δ μ → D.nx δ μ) : DFoL x (xs.map f) g b D δ μ := by
  refine ⟨I, h0, hk, fun i y δ μ hx hi => ?_, fun δ μ h => hd δ μ (by rw [List.length_map] at h; exact h)⟩
  rw [List.getElem?_map] at hx
  obtain ⟨y, hy, rfl⟩ := Option.map_eq_some_iff.mp hx
  exact hs i y δ μ hy hi
def kKS (kvs : List (Str × Int)) : List (Key × V) := kvs.map fun kv => (Sum.inr kv.1, V.int kv.2)
def dGetS (kvs : List (Str × Int)) (n : Int) (e : DE) : DE := fun δ μ Q => e δ μ fun x μ1 => ∃ k v, x = .d (.str k) ∧ (valV (mergeK [] (kKS kvs)) (Sum.inr k)).getD (.int n) = .int v ∧ Q (.d (.int v)) μ1
theorem atI_0 {α : Type} {x : α} {r : List α} : atI (x :: r) 0 = some x := atI_nat' (j := 0) rfl rfl
theorem atI_1 {α : Type} {x y : α} {r : List α} : atI (x :: y :: r) 1 = some y := atI_nat' (j := 1) rfl rfl
theorem atI_2 {α : Type} {x y z : α} {r : List α} : atI (x :: y :: z :: r) 2 = some z := atI_nat' (j := 2) rfl rfl
theorem atI_3 {α : Type} {x y z w : α} {r : List α} : atI (x :: y :: z :: w :: r) 3 = some w := atI_nat' (j := 3) rfl rfl
end L2

namespace L2
open PySem PySem.Spec PyProof.Rows
mutual
inductive Dt (μ : Mu) (S : List Addr) : DV → PyData → Prop
  | d (x : PyData) : Dt μ S (.d x) x
  | own {a : Addr} {xs : List DV} {ds : List PyData} : a ∈ S → μ.o a = some (.own xs) → DtAll μ S xs ds → Dt μ S (.r a) (.list ds)
  | fz {a : Addr} {ds : List PyData} : μ.o a = some (.fz ds) → Dt μ S (.r a) (.list ds)
inductive DtAll (μ : Mu) (S : List Addr) : List DV → List PyData → Prop
  | nil : DtAll μ S [] []
  | cons {x : DV} {xs : List DV} {d : PyData} {ds : List PyData} : Dt μ S x d → DtAll μ S xs ds → DtAll μ S (x :: xs) (d :: ds)
end
section
variable {K : PySem.W.Frag} {p q : Addr} {Z : Hp} {μ : Mu} {F H : Hp} {S : List Addr}
def layF (F H : Hp) (S : List Addr) : Hp := fun b => if b ∈ S then H b else F b
theorem layF_in {b : Addr} (h : b ∈ S) : layF F H S b = H b := if_pos h
theorem layF_out {b : Addr} (h : b ∉ S) : layF F H S b = F b := if_neg h
theorem layF_same (fs : ∀ a ∈ S, F a = none) : Same F (layF F H S) := fun b o e => by
  rw [layF_out (fun h => by rw [fs b h] at e; cases e)]; exact e
mutual
theorem Dt.lay (r : Rp K p q Z μ F H) (fs : ∀ a ∈ S, F a = none) : ∀ (d : PyData) (x : DV) (v : V), Dt μ S x d → RV K p F v x → Dq K (layF F H S) v d
  | d, _, v, .d _, h => Dq.same (layF_same fs) _ _ h
  | .list ds, _, v, .fz e, h => by
    cases h
    obtain ⟨vs, g1, g2⟩ := r.fz _ _ e
    exact .lst (layF_same fs _ _ g1) (DqAll.same (layF_same fs) _ _ g2)
  | .list ds, _, v, .own m e g, h => by
    cases h
    obtain ⟨_, _, _, vs, h1, h2⟩ := r.ow _ _ e
    exact .lst (by rw [layF_in m]; exact h1) (DtAll.lay r fs ds _ vs g h2)
theorem DtAll.lay (r : Rp K p q Z μ F H) (fs : ∀ a ∈ S, F a = none) : ∀ (ds : List PyData) (xs : List DV) (vs : List V), DtAll μ S xs ds → RVs K p F vs xs → DqAll K (layF F H S) vs ds
  | [], _, _, .nil, h => by cases h; exact .nil
  | d :: ds, _, _, .cons g1 g2, h => by
    cases h with
    | cons h1 h2 => exact .cons (Dt.lay r fs d _ _ g1 h1) (DtAll.lay r fs ds _ _ g2 h2)
end
theorem Rp.dt (r : Rp K p q Z μ F H) (ow : ∀ a ∈ S, ∃ xs, μ.o a = some (.own xs)) {v : V} {x : DV} {d : PyData} (h : RV K p F v x) (g : Dt μ S x d) (c : d.canLay0 = true) : Dp K H v d := by
  have fs : ∀ a ∈ S, F a = none := fun a h => by obtain ⟨xs, e⟩ := ow a h; exact (r.ow _ _ e).1
  have sm : Same (layF F H S) H := fun b u e => by
    by_cases hb : b ∈ S
    · rw [layF_in hb] at e; exact e
    · rw [layF_out hb] at e; exact r.fs _ _ e
  exact Dq.dp sm _ _ c (Dt.lay r fs d x v g h)
end
def OwS (μ : Mu) (S : List Addr) : Prop := ∀ a ∈ S, ∃ xs, μ.o a = some (.own xs)
/-- all of it goes out of one's hands -/
def dEscD (a : DE) : DE := fun δ μ Q => a δ μ fun x μ1 => ∃ S d μ', Dt μ1 S x d ∧ OwS μ1 S ∧ Sub μ' μ1 ∧ (∀ a ∈ S, μ'.o a = none) ∧ Q (.d d) μ'
theorem dtAll_d {μ : Mu} {S : List Addr} : ∀ ds : List PyData, DtAll μ S (ds.map DV.d) ds
  | [] => .nil
  | d :: ds => .cons (.d d) (dtAll_d ds)
end L2

namespace L2
open PySem PySem.Spec PyProof.Rows
theorem smallK {n : Nat} (h : n ≤ 6000) : n < sizeLine := Nat.lt_of_le_of_lt h (by decide)
theorem szK {n : Nat} (h : n ≤ 6000) : n ≤ sizeLine := Nat.le_of_lt (smallK h)
theorem put_comm {μ : Mu} {a b : Addr} {x y : MO} (h : a ≠ b) : (μ.put a x).put b y = (μ.put b y).put a x := by
  unfold Mu.put
  congr 1
  funext c
  by_cases h1 : c = b
  · subst h1; simp [show ¬ c = a from fun e => h e.symm]
  · simp [h1]
theorem pts_two {μ : Mu} {l1 l2 : Addr} {A B C : MO} (h : l1 ≠ l2) : ((μ.put l1 A).put l2 B).put l1 C = (μ.put l1 C).put l2 B := by
  rw [put_comm (μ := μ.put l1 A) (fun e => h e.symm), Mu.put_put]
/-- isinstance of a list of one's own -/
def dIsiL : DR1 := fun xs μ Q => ∃ x T b ys, xs = [x, .ty T] ∧ its μ x = some ys ∧ isiD (.list []) T = some b ∧ Q (.d (.bool b)) μ
inductive Kd where
  | grey (d : Nat) | colour | named (d : Nat) (pal : List (Int × Int × Int))
def c3 (c : Int × Int × Int) : PyData := .tuple [.int c.1, .int c.2.1, .int c.2.2]
def dm (d : Nat) : Nat := if d = 1 then 2 else if d = 2 then 4 else if d = 4 then 16 else 256
def Dep (d : Nat) : Prop := d = 1 ∨ d = 2 ∨ d = 4 ∨ d = 8
def By (n : Int) : Prop := 0 ≤ n ∧ n < 256
def B3 (c : Int × Int × Int) : Prop := By c.1 ∧ By c.2.1 ∧ By c.2.2
def KOk : Kd → Prop
  | .grey d => Dep d
  | .colour => True
  | .named d pal => Dep d ∧ 1 ≤ pal.length ∧ pal.length ≤ dm d ∧ ∀ c ∈ pal, B3 c
def PxOk : Kd → PyData → Prop
  | .grey d, p => ∃ n : Int, p = .int n ∧ 0 ≤ n ∧ n < dm d
  | .colour, p => ∃ c, p = c3 c ∧ B3 c
  | .named _ pal, p => ∃ n : Int, p = .int n ∧ 0 ≤ n ∧ n < pal.length
structure PicOk (k : Kd) (w h : Nat) (rows : List (List PyData)) : Prop where
  kd : KOk k
  w1 : 1 ≤ w
  w2 : w ≤ 24
  h1 : 1 ≤ h
  h2 : h ≤ 24
  len : rows.length = h
  row : ∀ r ∈ rows, r.length = w
  px : ∀ r ∈ rows, ∀ p ∈ r, PxOk k p
theorem Dep.le {d : Nat} (h : Dep d) : d ≤ 8 := by unfold Dep at h; omega
def psR : Nat → List (Nat × Nat × Nat × Nat)
  | 0 => []
  | j + 1 => (2 ^ j, 2 ^ (j + 1), 0, 2 ^ (j + 1)) :: (0, 2 ^ j, 2 ^ j, 2 ^ (j + 1)) :: psR j
def psL (L : Nat) : List (Nat × Nat × Nat × Nat) := (0, 2 ^ L, 0, 2 ^ L) :: psR L
def p4 (q : Nat × Nat × Nat × Nat) : PyData := .tuple [.int q.1, .int q.2.1, .int q.2.2.1, .int q.2.2.2]
def cols (x a n : Nat) : List Nat := (List.range n).filter fun i => decide (x ≤ i) && decide ((i - x) % a = 0)
def px (rows : List (List PyData)) (y x : Nat) : PyData := (rows.getD y []).getD x .none
/-- the rows of a pass -/
def blk (rows : List (List PyData)) (w h : Nat) (q : Nat × Nat × Nat × Nat) : List (List PyData) :=
  if cols q.1 q.2.1 w = [] then [] else (cols q.2.2.1 q.2.2.2 h).map fun y => (cols q.1 q.2.1 w).map fun x => px rows y x
end L2

namespace L2
open PySem PySem.Spec PyProof.Rows
section
variable {prog : Program} {w : World} {A : Around} {E : Value → Shared → Prop} {s : Shared}
end
def jEnumT (e : DE) : DI := fun δ μ R => e δ μ fun x μ1 => ∃ ds, x = .d (.tuple ds) ∧ R (enI ds) μ1
end L2
namespace L2
open PySem PySem.Spec PyProof.Rows
end L2

namespace L2
open PySem PySem.Spec PyProof.Rows
def gd (L n : Nat) : Nat × Nat := let q := (psL L).getD (n - 1) (0, 1, 0, 1); (if 0 < q.1 then q.1 else q.2.1, if 0 < q.2.2.1 then q.2.2.1 else q.2.2.2)
end L2

namespace L2
open PySem PySem.Spec PyProof.Rows
structure Grd (μ μ' : Mu) (l : Addr) (ls : List Addr) (w h : Nat) (G : Nat → Nat → PyData) : Prop where
  fl : μ.o l = none
  fr : ∀ a ∈ ls, μ.o a = none
  sb : Sub μ μ'
  nl : l ∉ ls
  nd : ls.Nodup
  top : μ'.o l = some (.own (ls.map .r))
  len : ls.length = h
  inn : ∀ (y : Nat) a, ls[y]? = some a → μ'.o a = some (.own ((List.range w).map fun x => .d (G y x)))
theorem Grd.set {μ μ' : Mu} {l : Addr} {ls : List Addr} {w h : Nat} {G : Nat → Nat → PyData} (g : Grd μ μ' l ls w h G) {y0 x0 : Nat} {a : Addr} {p : PyData} (ha : ls[y0]? = some a) (hx : x0 < w) :
    Grd μ (μ'.put a (.own (((List.range w).map fun x => DV.d (G y0 x)).set x0 (.d p)))) l ls w h (fun y x => if y = y0 ∧ x = x0 then p else G y x) := by
  have hm := List.mem_of_getElem? ha
  refine ⟨g.fl, g.fr, g.sb.put (g.fr a hm), g.nl, g.nd, ?_, g.len, fun y b hb => ?_⟩
  · rw [Mu.put_ne (by rintro rfl; exact g.nl hm)]; exact g.top
  · by_cases e : b = a
    · subst e
      have ey : y = y0 := by
        obtain ⟨h1, e1⟩ := List.getElem?_eq_some_iff.mp ha
        obtain ⟨h2, e2⟩ := List.getElem?_eq_some_iff.mp hb
        have nd := List.pairwise_iff_getElem.mp g.nd
        rcases Nat.lt_trichotomy y y0 with z | z | z
        · exact absurd (e2.trans e1.symm) (nd y y0 h2 h1 z)
        · exact z
        · exact absurd (e1.trans e2.symm) (nd y0 y h1 h2 z)
      subst ey
      rw [Mu.put_same]
      congr 2
      apply List.ext_getElem?
      intro j
      rw [List.getElem?_set, List.length_map, List.length_range, List.getElem?_map, List.getElem?_map]
      by_cases hj : x0 = j
      · subst hj
        rw [if_pos rfl, if_pos hx, List.getElem?_range hx]; simp
      · rw [if_neg hj]
        by_cases hj2 : j < w
        · rw [List.getElem?_range hj2]; simp [show ¬ j = x0 from fun e => hj e.symm]
        · rw [List.getElem?_eq_none (by simpa using hj2)]; rfl
    · rw [Mu.put_ne e, g.inn y b hb]
      have ey : y ≠ y0 := by rintro rfl; rw [ha] at hb; cases hb; exact e rfl
      simp [ey]
theorem Grd.dt {μ μ' : Mu} {l : Addr} {ls : List Addr} {w h : Nat} {G : Nat → Nat → PyData} (g : Grd μ μ' l ls w h G) : Dt μ' (l :: ls) (.r l) (.list ((List.range h).map fun y => .list ((List.range w).map fun x => G y x))) ∧ OwS μ' (l :: ls) := by
  have key : ∀ (as : List Addr) (k : Nat), (∀ a ∈ as, a ∈ ls) → (∀ (i : Nat) a, as[i]? = some a → μ'.o a = some (.own ((List.range w).map fun x => .d (G (k + i) x)))) → DtAll μ' (l :: ls) (as.map .r) ((List.range as.length).map fun y => .list ((List.range w).map fun x => G (k + y) x)) := by
    intro as
    induction as with
    | nil => intro k _ _; exact .nil
    | cons a as ih =>
      intro k h1 h2
      rw [List.length_cons, List.range_succ_eq_map, List.map_cons, List.map_cons, List.map_map]
      refine .cons (.own (xs := (List.range w).map fun x => .d (G (k + 0) x)) (by simp [h1 a (by simp)]) (h2 0 a rfl) ?_) ?_
      · have := dtAll_d (μ := μ') (S := l :: ls) ((List.range w).map fun x => G (k + 0) x)
        rw [List.map_map] at this
        exact this
      · have := ih (k + 1) (fun b hb => h1 b (by simp [hb])) (fun i b hb => by
          have := h2 (i + 1) b (by simpa using hb)
          rw [show k + 1 + i = k + (i + 1) by omega]; exact this)
        have e : (fun y => PyData.list ((List.range w).map fun x => G (k + 1 + y) x)) = ((fun y => PyData.list ((List.range w).map fun x => G (k + y) x)) ∘ Nat.succ) := by
          funext y; simp only [Function.comp]; rw [show k + 1 + y = k + y.succ by omega]
        rw [e] at this
        exact this
  have := key ls 0 (fun _ h => h) (fun i a ha => by rw [Nat.zero_add]; exact g.inn i a ha)
  simp only [Nat.zero_add] at this
  rw [g.len] at this
  refine ⟨.own (by simp) g.top this, fun a ha => ?_⟩
  rcases List.mem_cons.mp ha with rfl | ha
  · exact ⟨_, g.top⟩
  · obtain ⟨i, hi, ei⟩ := List.getElem_of_mem ha
    exact ⟨_, g.inn i a (by rw [List.getElem?_eq_getElem hi, ei])⟩
theorem Grd.no {μ μ' : Mu} {l : Addr} {ls : List Addr} {w h : Nat} {G : Nat → Nat → PyData} (g : Grd μ μ' l ls w h G) : ∀ a ∈ l :: ls, μ.o a = none := by
  intro a ha
  rcases List.mem_cons.mp ha with rfl | ha
  · exact g.fl
  · exact g.fr a ha
/-- rows being laid -/
structure Lays (μ μ' : Mu) (ls : List Addr) (b : List DV) : Prop where
  fr : ∀ a ∈ ls, μ.o a = none
  sb : Sub μ μ'
  nd : ls.Nodup
  inn : ∀ a ∈ ls, μ'.o a = some (.own b)
theorem Lays.nil {μ : Mu} {b : List DV} : Lays μ μ [] b := ⟨fun a h => by simp at h, Sub.refl, List.nodup_nil, fun a h => by simp at h⟩
theorem Lays.fresh {μ μ' : Mu} {ls : List Addr} {b : List DV} (g : Lays μ μ' ls b) {l : Addr} (h : μ'.o l = none) : l ∉ ls ∧ μ.o l = none := by
  refine ⟨fun hm => (by rw [g.inn l hm] at h; cases h), ?_⟩
  cases e : μ.o l with
  | none => rfl
  | some x => rw [g.sb.o l x e] at h; cases h
theorem Lays.snoc {μ μ' : Mu} {ls : List Addr} {b : List DV} (g : Lays μ μ' ls b) {l : Addr} (h : μ'.o l = none) : Lays μ (μ'.put l (.own b)) (ls ++ [l]) b := by
  obtain ⟨h1, h2⟩ := g.fresh h
  refine ⟨fun a ha => ?_, g.sb.put h2, ?_, fun a ha => ?_⟩
  · rcases List.mem_append.mp ha with z | z
    · exact g.fr a z
    · rw [List.mem_singleton] at z; subst z; exact h2
  · rw [List.nodup_append]
    exact ⟨g.nd, by simp, fun a ha b hb e => h1 (by rw [List.mem_singleton] at hb; subst hb; subst e; exact ha)⟩
  · by_cases e : a = l
    · subst e; exact Mu.put_same
    · rw [Mu.put_ne e]
      rcases List.mem_append.mp ha with z | z
      · exact g.inn a z
      · rw [List.mem_singleton] at z; exact absurd z e
end L2

namespace L2
open PySem PySem.Spec PyProof.Rows
def dIn (neg : Bool) : DR2 := fun x y μ Q => ∃ d c xs, dat μ x = some d ∧ dat μ y = some c ∧ (c = .list xs ∨ c = .tuple xs) ∧ SeqAt.shaped d = true ∧ SeqAt.shaped c = true ∧ Q (.d (.bool (if neg then !(xs.any fun e => PyData.eqv e d) else xs.any fun e => PyData.eqv e d))) μ
def dIndexB : DV → List DV → Mu → DQ → Prop := fun x vs μ Q => ∃ (bs : List Bool) (b : Bool) (j : Nat), its μ x = some (bs.map fun b => .d (.bool b)) ∧ vs = [.d (.bool b)] ∧ bs[j]? = some b ∧ (∀ m, m < j → bs[m]? ≠ some b) ∧ Q (.d (.int j)) μ
end L2

namespace L2
open PySem PySem.Spec PyProof.Rows
end L2

namespace L2
open PySem PySem.Spec PyProof.Rows
def DLcI (ys : List DV) (g1 : DG) (t1 : DT) (e : DE) (vs1 : List Nat) (δ2 : DSt) (acc : List DV) (μ4 : Mu) (Nx : List DV → Mu → Prop) : Prop :=
  ∃ J : Nat → List DV → Mu → Prop, J 0 acc μ4 ∧ (∀ j y acc' μ, ys[j]? = some y → J j acc' μ → g1 y (dwipe δ2 vs1) μ fun δ3 μ5 => t1 δ3 μ5 fun b μ6 => if b = true then e δ3 μ6 fun z μ7 => acc'.length < sizeLine ∧ J (j + 1) (acc' ++ [z]) μ7 else J (j + 1) acc' μ6) ∧ ∀ acc' μ, J ys.length acc' μ → Nx acc' μ
def DLc2 (xs : List DV) (g : DG) (t : DT) (di1 : DI) (g1 : DG) (t1 : DT) (e : DE) (vs vs1 : List Nat) (δ : DSt) (μ : Mu) (Q : List DV → Mu → Prop) : Prop :=
  ∃ I : Nat → List DV → Mu → Prop, I 0 [] μ ∧ (∀ i x acc μ, xs[i]? = some x → I i acc μ → g x (dwipe δ vs) μ fun δ2 μ2 => t δ2 μ2 fun b μ3 => if b = true then di1 δ2 μ3 fun ys μ4 => DLcI ys g1 t1 e vs1 δ2 acc μ4 (I (i + 1)) else I (i + 1) acc μ3) ∧ ∀ acc μ, I xs.length acc μ → Q acc μ
def dLc2 (O : Bool) (di : DI) (g : DG) (t : DT) (di1 : DI) (g1 : DG) (t1 : DT) (e : DE) (vs vs1 : List Nat) : DE := fun δ μ Q => di δ μ fun xs μ1 => DLc2 xs g t di1 g1 t1 e vs vs1 δ μ1 fun acc μ2 => if O = true then ∀ l, μ2.o l = none → Q (.r l) (μ2.put l (.own acc)) else ∃ ds, unD acc = some ds ∧ Q (.d (.list ds)) μ2
/-- both walk known things, the outcome is a list of lists laid flat -/
theorem DLc2.pure {α β : Type} {f : α → DV} {f1 : α → β → DV} {xs : List α} {g : DG} {t : DT} {di1 : DI} {g1 : DG} {t1 : DT} {e : DE} {vs vs1 : List Nat} {δ : DSt} {μ : Mu} {Q : List DV → Mu → Prop} (ys : α → List β) (φ : α → β → DV)
    (hlen : (xs.flatMap ys).length ≤ 6000)
    (hs : ∀ (i : Nat) (x : α) (acc : List DV) (Nx : List DV → Mu → Prop) (N : List DV → Mu → Prop), xs[i]? = some x → acc.length + (ys x).length ≤ 6000 → Nx (acc ++ (ys x).map (φ x)) μ → g (f x) (dwipe δ vs) μ fun δ2 μ2 => t δ2 μ2 fun b μ3 => if b = true then di1 δ2 μ3 fun zs μ4 => DLcI zs g1 t1 e vs1 δ2 acc μ4 Nx else N acc μ3)
    (hd : Q (xs.flatMap fun x => (ys x).map (φ x)) μ) : DLc2 (xs.map f) g t di1 g1 t1 e vs vs1 δ μ Q := by
  have hl : ∀ i, ((xs.take i).flatMap fun x => (ys x).map (φ x)).length + ((xs.drop i).flatMap ys).length = (xs.flatMap ys).length := by
    intro i
    have e1 : ((xs.take i).flatMap fun x => (ys x).map (φ x)).length = ((xs.take i).flatMap ys).length := by
      rw [List.length_flatMap, List.length_flatMap]; congr 1; simp
    rw [e1, ← List.length_append, ← List.flatMap_append, List.take_append_drop]
  refine ⟨fun i acc μ' => μ' = μ ∧ acc = (xs.take i).flatMap fun x => (ys x).map (φ x), ⟨rfl, rfl⟩, ?_, ?_⟩
  · rintro i x acc μ' hx ⟨rfl, rfl⟩
    rw [List.getElem?_map] at hx
    obtain ⟨y, hy, rfl⟩ := Option.map_eq_some_iff.mp hx
    refine hs i y _ (fun acc' μ'' => μ'' = μ' ∧ acc' = (xs.take (i + 1)).flatMap fun x => (ys x).map (φ x)) (fun acc' μ'' => μ'' = μ' ∧ acc' = (xs.take (i + 1)).flatMap fun x => (ys x).map (φ x)) hy ?_ ⟨rfl, ?_⟩
    · have := hl i
      have hdr : xs.drop i = y :: xs.drop (i + 1) := by
        obtain ⟨h1, h2⟩ := List.getElem?_eq_some_iff.mp hy
        rw [← h2]; exact (List.drop_eq_getElem_cons h1)
      rw [hdr, List.flatMap_cons, List.length_append] at this
      omega
    · rw [take_next hy, List.flatMap_append]; simp
  · rintro acc μ' ⟨rfl, rfl⟩
    rw [List.length_map, List.take_length]; exact hd
theorem DLcI.pure {β : Type} {f1 : β → DV} {ys : List β} {g1 : DG} {t1 : DT} {e : DE} {vs1 : List Nat} {δ2 : DSt} {acc : List DV} {μ : Mu} {Nx : List DV → Mu → Prop} (φ : β → DV) (hl : acc.length + ys.length ≤ 6000)
    (hs : ∀ (j : Nat) (y : β) (P N : DQ), ys[j]? = some y → P (φ y) μ → g1 (f1 y) (dwipe δ2 vs1) μ fun δ3 μ5 => t1 δ3 μ5 fun b μ6 => if b = true then e δ3 μ6 P else N (.d .none) μ6)
    (hd : Nx (acc ++ ys.map φ) μ) : DLcI (ys.map f1) g1 t1 e vs1 δ2 acc μ Nx := by
  refine ⟨fun j acc' μ' => μ' = μ ∧ acc' = acc ++ (ys.take j).map φ, ⟨rfl, by simp⟩, ?_, ?_⟩
  · rintro j y acc' μ' hy ⟨rfl, rfl⟩
    rw [List.getElem?_map] at hy
    obtain ⟨z, hz, rfl⟩ := Option.map_eq_some_iff.mp hy
    refine hs j z _ (fun _ μ6 => μ6 = μ' ∧ acc ++ (ys.take j).map φ = acc ++ (ys.take (j + 1)).map φ) hz ⟨?_, rfl, ?_⟩
    · have := (List.getElem?_eq_some_iff.mp hz).1
      rw [List.length_append, List.length_map, List.length_take]
      exact smallK (by omega)
    · rw [take_next hz, List.map_append, List.append_assoc]; rfl
  · rintro acc' μ' ⟨rfl, rfl⟩
    rw [List.length_map, List.take_length]; exact hd
def dLRng3 (O : Bool) (a : DA) : DE := fun δ μ Q => a δ μ fun xs μ1 => ∃ (i j c : Int) (n : Nat), xs = [.d (.int i), .d (.int j), .d (.int c)] ∧ RgC i j c n ∧ n ≤ 1000 ∧ if O = true then ∀ l, μ1.o l = none → Q (.r l) (μ1.put l (.own (rgI i c n))) else Q (.d (.list ((List.range n).map fun k : Nat => .int (i + (k : Int) * c)))) μ1
def ecI (lo c : Int) (n : Nat) : List DV := (List.range n).map fun k : Nat => .d (.tuple [.int k, .int (lo + (k : Int) * c)])
def jEnC (a : DA) : DI := fun δ μ R => a δ μ fun xs μ1 => ∃ (i j c : Int) (n : Nat), xs = [.d (.int i), .d (.int j), .d (.int c)] ∧ RgC i j c n ∧ R (ecI i c n) μ1
def dIndexI : DV → List DV → Mu → DQ → Prop := fun x vs μ Q => ∃ (ns : List Int) (n : Int) (j : Nat), its μ x = some (ns.map fun n => .d (.int n)) ∧ vs = [.d (.int n)] ∧ ns[j]? = some n ∧ (∀ m, m < j → ns[m]? ≠ some n) ∧ Q (.d (.int j)) μ
theorem eqV_ii {a b : Int} : eqV (.int a) (.int b) = decide (a = b) := by rfl
theorem sm_indexI {K : PySem.W.Frag} : SM K "list" (rIndex K) dIndexI ownT := ⟨ty_own, by
  intro p q Z v x vs xs μ F H QD Q rp rv rvs lf h
  obtain ⟨ns, n, j, e, rfl, hj, hno, h⟩ := h
  obtain ⟨a, ws, rfl, hw, rw'⟩ := rp.its rv e
  have ew : ws = ns.map V.int := ints_inv rw'
  subst ew
  cases rvs with
  | cons r rr =>
    cases rr; cases r
    refine ⟨a, ns.map V.int, .int n, j, .int n, rfl, rfl, SqL.of hw, rfl, ?_, by rw [List.getElem?_map, hj]; rfl, by rw [eqV_ii]; simp, fun m z hm hz => ?_, lf _ _ _ _ _ (Same.refl _) rp rv_int h⟩
    · rw [List.all_map]; exact List.all_eq_true.mpr fun _ _ => rfl
    · rw [List.getElem?_map] at hz
      obtain ⟨c, hc, rfl⟩ := Option.map_eq_some_iff.mp hz
      rw [eqV_ii]
      have := hno m hm
      rw [hc] at this
      exact decide_eq_false fun e => this (by rw [e])⟩
end L2

namespace L2
open PySem PySem.Spec PyProof.Rows
def DLcL (x : DV) (xs : List DV) (g : DG) (t : DT) (e : DE) (vs : List Nat) (δ : DSt) (μ : Mu) (Q : List DV → Mu → Prop) : Prop := ∃ I : Nat → List DV → Mu → Prop, I 0 [] μ ∧ (∀ i acc μ, I i acc μ → its μ x = some xs) ∧ (∀ i y acc μ, xs[i]? = some y → I i acc μ → g y (dwipe δ vs) μ fun δ2 μ2 => t δ2 μ2 fun b μ3 => if b = true then e δ2 μ3 fun z μ4 => I (i + 1) (acc ++ [z]) μ4 else I (i + 1) acc μ3) ∧ ∀ acc μ, I xs.length acc μ → Q acc μ
def dLcL (O : Bool) (d : DE) (g : DG) (t : DT) (e : DE) (vs : List Nat) : DE := fun δ μ Q => d δ μ fun x μ1 => ∃ xs, its μ1 x = some xs ∧ xs.length ≤ sizeLine ∧ DLcL x xs g t e vs δ μ1 fun acc μ2 => if O = true then ∀ l, μ2.o l = none → Q (.r l) (μ2.put l (.own acc)) else ∃ ds, unD acc = some ds ∧ Q (.d (.list ds)) μ2
theorem DLcL.pure {α : Type} {f : α → DV} {xs : List α} {x : DV} {g : DG} {t : DT} {e : DE} {vs : List Nat} {δ : DSt} {μ : Mu} {Q : List DV → Mu → Prop} (φ : α → DV) (hx : its μ x = some (xs.map f)) (hs : ∀ (i : Nat) (y : α) (P N : DQ), xs[i]? = some y → P (φ y) μ → g (f y) (dwipe δ vs) μ fun δ2 μ2 => t δ2 μ2 fun b μ3 => if b = true then e δ2 μ3 P else N (.d .none) μ3) (hd : Q (xs.map φ) μ) : DLcL x (xs.map f) g t e vs δ μ Q := by
  refine ⟨fun i acc μ' => μ' = μ ∧ acc = (xs.take i).map φ, ⟨rfl, rfl⟩, ?_, ?_, ?_⟩
  · rintro i acc μ' ⟨rfl, rfl⟩; exact hx
  · rintro i y acc μ' hy ⟨rfl, rfl⟩
    rw [List.getElem?_map] at hy
    obtain ⟨z, hz, rfl⟩ := Option.map_eq_some_iff.mp hy
    refine hs i z _ (fun _ μ3 => μ3 = μ' ∧ (xs.take i).map φ = (xs.take (i + 1)).map φ) hz ⟨rfl, ?_⟩
    rw [take_next hz, List.map_append]; rfl
  · rintro acc μ' ⟨rfl, rfl⟩
    rw [List.length_map, List.take_length]; exact hd
def layQ (w h i : Nat) (q : Nat × Nat × Nat × Nat) : List (Nat × Nat × List Nat × Nat) := if cols q.1 q.2.1 w = [] then [] else (cols q.2.2.1 q.2.2.2 h).mapIdx fun a y => (i, a, cols q.1 q.2.1 w, y)
def layTo (w h L n : Nat) : List (Nat × Nat × List Nat × Nat) := (List.range n).flatMap fun i => match (psL L)[i]? with | some q => layQ w h i q | none => []
def lay (w h L : Nat) : List (Nat × Nat × List Nat × Nat) := layTo w h L (psL L).length
def l4 (t : Nat × Nat × List Nat × Nat) : PyData := .tuple [.int t.1, .int t.2.1, .list (t.2.2.1.map fun i : Nat => .int i), .int t.2.2.2]
end L2

namespace L2
open PySem PySem.Spec PyProof.Rows
inductive Df where
  | i (n : Int) | no
def Df.v : Df → V
  | .i n => .int n
  | .no => .non
def Df.dat : Df → PyData
  | .i n => .int n
  | .no => .none
def pickS {α : Type} (ws : List α) : Sum Nat α → Option α
  | .inl j => ws[j]?
  | .inr d => some d
def selG {α : Type} (na nk : Nat) (sel : List (Sum Nat α)) (us ws : List α) : List α := if us.length = na ∧ ws.length = nk then us ++ sel.filterMap (pickS ws) else []
def selM {α : Type} (f : Df → α) : List (Sum Nat Df) → List (Sum Nat α)
  | [] => []
  | .inl j :: r => .inl j :: selM f r
  | .inr d :: r => .inr (f d) :: selM f r
inductive SelR {α β : Type} (P : α → β → Prop) : List (Sum Nat α) → List (Sum Nat β) → Prop
  | nil : SelR P [] []
  | l {j : Nat} {r s} : SelR P r s → SelR P (.inl j :: r) (.inl j :: s)
  | r {a b} {r s} : P a b → SelR P r s → SelR P (.inr a :: r) (.inr b :: s)
section
variable {X : Cx} {x : Str} {k : Nat} {ps ks : List Str} {sp : Sp} {BF : FuncData → Prop} {e : Expr} {es : List Expr} {kws : List Keyword} {t tk : TA} {p pos : Pos} {na nk : Nat} {sel : List (Sum Nat Df)}
end
end L2

namespace L2
open PySem PySem.Spec PyProof.Rows
def dLRng2 (O : Bool) (a : DA) : DE := fun δ μ Q => a δ μ fun xs μ1 => ∃ (i j : Int) (n : Nat), xs = [.d (.int i), .d (.int j)] ∧ RgC i j 1 n ∧ n ≤ 1000 ∧ if O = true then ∀ l, μ1.o l = none → Q (.r l) (μ1.put l (.own (rgI i 1 n))) else Q (.d (.list ((List.range n).map fun k : Nat => .int (i + (k : Int) * 1)))) μ1
def dStar (a : DE) (r : DA) : DA := fun δ μ Q => a δ μ fun x μ1 => ∃ ys, its μ1 x = some ys ∧ r δ μ1 fun xs μ2 => Q (ys ++ xs) μ2
end L2

namespace L2
open PySem PySem.Spec PyProof.Rows
def dIsB : DR2 := fun x y μ Q => ∃ b c, x = .d (.bool b) ∧ y = .d (.bool c) ∧ Q (.d (.bool (b == c))) μ
def dIsNotB : DR2 := fun x y μ Q => ∃ b c, x = .d (.bool b) ∧ y = .d (.bool c) ∧ Q (.d (.bool (b != c))) μ
def dPar (i j : Nat) (a : DA) : DS := fun D δ μ => a δ μ fun xs μ1 => ∃ x y, xs = [x, y] ∧ D.nx ((δ.set i (some x)).set j (some y)) μ1
end L2

namespace L2
open PySem PySem.Spec PyProof.Rows
def DFoZ (x y : DV) (ds es : List PyData) (g : DG) (b : DS) (D : DEnds) (δ : DSt) (μ : Mu) : Prop := ∃ I : Nat → DSt → Mu → Prop, I 0 δ μ ∧ (∀ i δ μ, I i δ μ → its μ x = some (ds.map .d) ∧ its μ y = some (es.map .d)) ∧ (∀ i d e δ μ, ds[i]? = some d → es[i]? = some e → I i δ μ → g (.d (.tuple [d, e])) δ μ fun δ2 μ2 => b { D with nx := FgS (I (i + 1)), ct := FgS (I (i + 1)), bk := D.nx } δ2 μ2) ∧ ∀ δ μ, I (min ds.length es.length) δ μ → D.nx δ μ
def dForZ (e f : DE) (g : DG) (b : DS) : DS := fun D δ μ => e δ μ fun x μ1 => (∃ zs, its μ1 x = some zs) ∧ f δ μ1 fun y μ2 => ∃ ds es, its μ2 x = some (ds.map .d) ∧ its μ2 y = some (es.map .d) ∧ DFoZ x y ds es g b D δ μ2
end L2

namespace L2
open PySem PySem.Spec PyProof.Rows
open AutoSeq1 (wpAny_loadPart')
def dRepT : DR2 := fun x y μ Q => ∃ ds k, x = .d (.tuple ds) ∧ y = .d (.int k) ∧ ds ≠ [] ∧ 1 ≤ k ∧ k < 1000 ∧ ds.length ≤ 1000 ∧ Q (.d (.tuple (List.replicate k.toNat ds).flatten)) μ
end L2

namespace L2
open PySem PySem.Spec PyProof.Rows
def isNon : DV → Bool
  | .d .none => true
  | _ => false
def dIsN : DR2 := fun x y μ Q => y = .d .none ∧ Q (.d (.bool (isNon x))) μ
def dNotN : DR2 := fun x y μ Q => y = .d .none ∧ Q (.d (.bool (!isNon x))) μ
theorem isNon_n : isNon (.d .none) = true := rfl
theorem isNon_i {i : Int} : isNon (.d (.int i)) = false := rfl
end L2

namespace L2
open PySem PySem.Spec PyProof.Rows
open AutoSeq1 (wpAny_loadPart')
def dExtendT : DV → List DV → Mu → DQ → Prop := fun x vs μ Q => ∃ l xs ds, x = .r l ∧ vs = [.d (.tuple ds)] ∧ μ.o l = some (.own xs) ∧ xs.length + ds.length ≤ sizeLine ∧ Q (.d .none) (μ.put l (.own (xs ++ ds.map DV.d)))
end L2

namespace L2
open PySem PySem.Spec PyProof.Rows
def dDNew : DE := fun δ μ Q => Q (.d (.dict [])) μ
mutual
inductive Dx (H : Hp) : V → PyData → Prop
  | non : Dx H .non .none
  | bl (b : Bool) : Dx H (.bl b) (.bool b)
  | int (i : Int) : Dx H (.int i) (.int i)
  | str (x : Str) : Dx H (.str x) (.str x)
  | lst {a : Addr} {xs : List V} {ds : List PyData} : H a = some (.lst xs) → DxAll H xs ds → Dx H (.ref a) (.list ds)
  | tup {a : Addr} {xs : List V} {ds : List PyData} : H a = some (.tup xs) → DxAll H xs ds → Dx H (.ref a) (.tuple ds)
  | dic {a : Addr} {o : List (Key × Int)} : H a = some (.dK (dk o)) → Dx H (.ref a) (.dict (dd o))
inductive DxAll (H : Hp) : List V → List PyData → Prop
  | nil : DxAll H [] []
  | cons {v : V} {vs : List V} {d : PyData} {ds : List PyData} : Dx H v d → DxAll H vs ds → DxAll H (v :: vs) (d :: ds)
end
section
variable {K : PySem.W.Frag} {F H : Hp}
mutual
theorem Dq.dx (s : Same F H) : ∀ (d : PyData) (v : V), Dq K F v d → Dx H v d
  | .none, _, h => by cases h; exact .non
  | .bool b, _, h => by cases h; exact .bl b
  | .int i, _, h => by cases h; exact .int i
  | .str x, _, h => by cases h; exact .str x
  | .list ds, _, h => by
    cases h with
    | lst hs ha => exact .lst (s _ _ hs) (DqAll.dx s ds _ ha)
  | .tuple ds, _, h => by
    cases h with
    | tup hs ha => exact .tup (s _ _ hs) (DqAll.dx s ds _ ha)
  | .dict _, _, h => by
    cases h with
    | dic hs => exact .dic (s _ _ hs)
theorem DqAll.dx (s : Same F H) : ∀ (ds : List PyData) (vs : List V), DqAll K F vs ds → DxAll H vs ds
  | [], _, h => by cases h; exact .nil
  | d :: ds, _, h => by
    cases h with
    | cons h1 h2 => exact .cons (Dq.dx s d _ h1) (DqAll.dx s ds _ h2)
end
end
section
variable {X : Cx} {pins : List (Addr × Obj)} {σ : St} {H : Hp} {s : Shared}
theorem dic_all {P : Program} {w : World} {h : Heap} : ∀ {oo : List (Key × Int)} {vs : List (Key × Value)} {L : List DictEntry}, KV (dk oo) vs → Pairs (mixKind P w) L vs →
    ReadsAll h (L.map (·.key)) ((dd oo).map (·.1)) [] ∧ ReadsAll h (L.map (·.val)) ((dd oo).map (·.2)) []
  | [], _, _, r, p => by cases r; cases p; exact ⟨.nil, .nil⟩
  | q :: oo, _, _, r, p => by
    cases r with
    | cons r0 rr =>
      cases p with
      | cons k0 v0 pp =>
        rename_i qq vs2 e es
        obtain ⟨c1, c2⟩ := dic_all rr pp
        obtain ⟨rk, rv⟩ := r0
        have rv : RelV (.int q.2) qq.2 := rv
        obtain ⟨tk, ev⟩ := rv
        have k0 : keyIs qq.1 e.key = true := k0
        have rk : q.1 = qq.1 := rk
        rw [← rk] at k0
        have hk : Reads h e.key (kyD q.1) [] := by
          rcases keyIs_shape k0 with ⟨i, t, z, hv⟩ | ⟨x, t, z, hv⟩
          · rw [z, hv]; exact .int i t
          · rw [z, hv]; exact .str x t
        have hv : Reads h e.val (.int q.2) [] := by rw [v0, ev]; exact .int _ _
        exact ⟨.cons hk c1, .cons hv c2⟩
theorem Inv.dic0 (I : Inv X pins σ H s) {a : Addr} {oo : List (Key × Int)} (hs : H a = some (.dK (dk oo))) : Reads s.heap (.ref a) (.dict (dd oo)) [a] ∧ sysModules ∉ [a] := by
  obtain ⟨_, hn, vs, rel, o, es, ep, e1, e2, e3, e4, e5, e6⟩ := I.hok _ _ hs
  have hm : sysModules ∉ [a] := fun m => by
    have : a = sysModules := (List.mem_singleton.mp m).symm
    rw [this] at hn
    cases hn
  refine ⟨?_, hm⟩
  obtain ⟨c1, c2⟩ := dic_all rel e5
  exact Reads.dict (as := []) (bs := []) e1 e2.1 e3 c1 c2
mutual
theorem Dx.reads (I : Inv X pins σ H s) : ∀ (d : PyData) (v : V) (u : Value), Dx H v d → RelV v u → ∃ as, Reads s.heap u d as
  | .none, _, _, h, r => by cases h; cases r; exact ⟨_, .none⟩
  | .bool b, _, _, h, r => by cases h; cases r; exact ⟨_, .bool b⟩
  | .int i, _, _, h, r => by cases h; obtain ⟨t, rfl⟩ := r; exact ⟨_, .int i t⟩
  | .str x, _, _, h, r => by cases h; obtain ⟨t, rfl⟩ := r; exact ⟨_, .str x t⟩
  | .list ds, _, _, .lst hs ha, r => by
    cases r
    obtain ⟨_, its, n, rv, _, e⟩ := I.lstM hs
    obtain ⟨as, hr⟩ := Dx.readsAll I ds _ its ha rv
    exact ⟨_, .list e rfl rfl hr⟩
  | .tuple ds, _, _, .tup hs ha, r => by
    cases r
    obtain ⟨its, rv, ⟨o, ho, hc, n, hd⟩, _⟩ := I.tuple (SqT.of hs)
    obtain ⟨as, hr⟩ := Dx.readsAll I ds _ its ha rv
    exact ⟨_, .tuple ho hc hd hr⟩
  | .dict _, _, _, .dic hs, r => by cases r; exact ⟨_, (I.dic0 hs).1⟩
theorem Dx.readsAll (I : Inv X pins σ H s) : ∀ (ds : List PyData) (vs : List V) (us : List Value), DxAll H vs ds → Vals vs us → ∃ as, ReadsAll s.heap us ds as
  | [], _, _, .nil, r => by cases r; exact ⟨_, .nil⟩
  | d :: ds, _, _, .cons h1 h2, r => by
    cases r with
    | cons r1 r2 =>
      obtain ⟨as, q1⟩ := Dx.reads I d _ _ h1 r1
      obtain ⟨bs, q2⟩ := Dx.readsAll I ds _ _ h2 r2
      exact ⟨_, .cons q1 q2⟩
end
/-- what repr tells of a thing that stands in another one -/
def ShX (P : Program) (w : World) (h : Heap) (u : Value) (d : PyData) : Prop := ∃ bs, ReadAtMost h d.depth bs ∧ ReprK P w bs h d.depth u d.shown
def ShXs (P : Program) (w : World) (h : Heap) (us : List Value) (ds : List PyData) : Prop := ∃ bs, ReadAtMost h (PyData.depthAll ds) bs ∧ ReprAllK P w bs h (PyData.depthAll ds) us (PyData.shownAll ds)
theorem ShXs.cons {P : Program} {w : World} {h : Heap} {u : Value} {us : List Value} {d : PyData} {ds : List PyData} : ShX P w h u d → ShXs P w h us ds → ShXs P w h (u :: us) (d :: ds) := by
  rintro ⟨b1, g1, k1⟩ ⟨b2, g2, k2⟩
  have l1 : d.depth ≤ PyData.depthAll (d :: ds) := by rw [PyData.depthAll]; exact Nat.le_max_left _ _
  have l2 : PyData.depthAll ds ≤ PyData.depthAll (d :: ds) := by rw [PyData.depthAll]; exact Nat.le_max_right _ _
  refine ⟨b1 ++ b2, (g1.mono l1).append (g2.mono l2), ?_⟩
  rw [PyData.shownAll]
  exact .cons ((k1.more fun b => List.mem_append_left _).level_le l1) (k2.more_le (fun b => List.mem_append_right _) l2)
end
/-- small data, {} in it or not -/
structure OkR (k w : Nat) (d : PyData) : Prop where
  lv : d.leavesShort 61 = true
  dep : d.depth ≤ k
  wt : d.weight ≤ w
  sw : d.showable = true
mutual
theorem ls_mono {B C : Nat} (h : B ≤ C) : ∀ d : PyData, d.leavesShort B = true → d.leavesShort C = true
  | .none, _ => rfl
  | .bool _, _ => rfl
  | .int i, e => by rw [PyData.leavesShort, decide_eq_true_eq] at e ⊢; exact Nat.le_trans e h
  | .str x, e => by rw [PyData.leavesShort] at e ⊢; exact e
  | .list xs, e => by rw [PyData.leavesShort] at e ⊢; exact lsAll_mono h xs e
  | .tuple xs, e => by rw [PyData.leavesShort] at e ⊢; exact lsAll_mono h xs e
  | .dict xs, e => by rw [PyData.leavesShort] at e ⊢; exact lsKv_mono h xs e
theorem lsAll_mono {B C : Nat} (h : B ≤ C) : ∀ ds : List PyData, PyData.leavesShortAll B ds = true → PyData.leavesShortAll C ds = true
  | [], _ => rfl
  | d :: ds, e => by
    rw [PyData.leavesShortAll, Bool.and_eq_true] at e ⊢
    exact ⟨ls_mono h d e.1, lsAll_mono h ds e.2⟩
theorem lsKv_mono {B C : Nat} (h : B ≤ C) : ∀ ds : List (PyData × PyData), PyData.leavesShortKv B ds = true → PyData.leavesShortKv C ds = true
  | [], _ => rfl
  | (a, b) :: ds, e => by
    rw [PyData.leavesShortKv, Bool.and_eq_true, Bool.and_eq_true] at e ⊢
    exact ⟨⟨ls_mono h a e.1.1, ls_mono h b e.1.2⟩, lsKv_mono h ds e.2⟩
end
theorem Ok.r {k w : Nat} {d : PyData} (h : Ok k w d) : OkR k w d := ⟨ls_mono (by decide) d (PyData.leavesShort_of_canLay0 13 d h.lay h.sh), h.dep, h.wt, h.sw⟩
theorem OkR.mono {k w k' w' : Nat} {d : PyData} (h : OkR k w d) (a : k ≤ k') (b : w ≤ w') : OkR k' w' d := ⟨h.lv, Nat.le_trans h.dep a, Nat.le_trans h.wt b, h.sw⟩
def rNil (neg : Bool) : R2 := fun x y H Q => ∃ a b xs, x = .ref a ∧ y = .ref b ∧ H a = some (.lst xs) ∧ H b = some (.lst []) ∧ Q (.bl (if neg then !xs.isEmpty else xs.isEmpty)) H
theorem op_neNil {X : Cx} {j : Nat} (hr : Room j X.A) : OpR X (compareOp .NotEq) (rNil true) := by
  intro pins s σ H x y v u Q I rx ry h
  obtain ⟨a, b, xs, rfl, rfl, ha, hb, q⟩ := h
  have hu := hr.un
  cases xs with
  | nil =>
    obtain ⟨as, r1⟩ := Dx.reads I (.list []) (.ref a) v (.lst ha .nil) rx
    obtain ⟨bs, r2⟩ := Dx.reads I (.list []) (.ref b) u (.lst hb .nil) ry
    exact SeqAt.compareNe_shaped r1 r2 rfl rfl (by omega) ⟨.bl false, H, I, rfl, q⟩
  | cons y ys =>
    cases rx
    cases ry
    obtain ⟨_, its, n, r, hl, e⟩ := I.lstM ha
    obtain ⟨_, its2, n2, r2, hl2, e2⟩ := I.lstM hb
    refine SeqAt.RcNeAt.lists_lengths (items := its.toArray) (items2 := its2.toArray) ⟨_, e, rfl, n, rfl⟩ ⟨_, e2, rfl, n2, rfl⟩ ?_ (by omega) _ _ _ _ ⟨.bl true, H, I, rfl, q⟩
    rw [List.size_toArray, List.size_toArray, ← hl, ← hl2]
    rfl
def dNeNil : DR2 := fun x y μ Q => ∃ xs, its μ x = some xs ∧ y = .d (.list []) ∧ Q (.d (.bool (!xs.isEmpty))) μ
theorem sr_neNil {K : PySem.W.Frag} : SR K (rNil true) dNeNil := by
  intro p q Z v w x y μ F H QD Q rp r1 r2 lf h
  obtain ⟨xs, e, rfl, h⟩ := h
  obtain ⟨a, vs, rfl, ha, rv⟩ := rp.its r1 e
  cases r2 with
  | lst hs hz =>
    cases hz
    refine ⟨a, _, vs, rfl, rfl, ha, rp.fs _ _ hs, ?_⟩
    have : vs.isEmpty = xs.isEmpty := by
      have := Paired.len rv
      cases vs <;> cases xs <;> first | rfl | cases this
    rw [if_pos rfl, this]
    exact lf _ _ _ _ _ (Same.refl _) rp rv_bl h
def dSl3 (O : Bool) (a : DE) (l h s : DO) : DE := fun δ μ Q => a δ μ fun x μ1 => l δ μ1 fun lo μ2 => h δ μ2 fun hi μ3 => s δ μ3 fun st μ4 => ∃ xs, its μ4 x = some xs ∧ st ≠ some 0 ∧ if O = true then ∀ l, μ4.o l = none → Q (.r l) (μ4.put l (.own (pickL xs lo hi st))) else ∃ ds, unD (pickL xs lo hi st) = some ds ∧ Q (.d (.list ds)) μ4
end L2

namespace L2
open PySem PySem.Spec PyProof.Rows
def dEqNil : DR2 := fun x y μ Q => ∃ xs, its μ x = some xs ∧ y = .d (.list []) ∧ Q (.d (.bool xs.isEmpty)) μ
theorem cutG_fromB {α : Type} {xs : List α} {b : Nat} : cutG xs (some (b : Int)) none = xs.drop b := by
  unfold cutG
  rw [HT.sIx_none, HT.sIx_nat]
  by_cases h : b ≤ xs.length
  · rw [Nat.min_eq_left h, List.take_of_length_le (by rw [List.length_drop]; omega)]
  · rw [Nat.min_eq_right (by omega), List.drop_length, List.drop_of_length_le (by omega)]; simp
end L2

namespace L2
open PySem PySem.Spec PyProof.Rows
end L2

namespace L2
open PySem PySem.Spec PyProof.Rows
section
variable {K : PySem.W.Frag} {p q : Addr} {Z : Hp} {F G H : Hp} {S : List Addr}
def rmF (F : Hp) (S : List Addr) : Hp := fun b => if b ∈ S then none else F b
theorem rmF_out {b : Addr} (h : b ∉ S) : rmF F S b = F b := if_neg h
theorem rmF_in {b : Addr} (h : b ∈ S) : rmF F S b = none := if_pos h
theorem rmF_some {b : Addr} {o : HO} (h : rmF F S b = some o) : b ∉ S ∧ F b = some o := by
  by_cases g : b ∈ S
  · rw [rmF_in g] at h; cases h
  · rw [rmF_out g] at h; exact ⟨g, h⟩
/-- the frame: one's own lists that are not lent -/
def frZ (μ : Mu) (Z H : Hp) (S : List Addr) : Hp := fun b => match μ.o b with
  | some (.own _) => if b ∈ S then Z b else H b
  | some (.dc _) => H b
  | some (.bx _ _) => H b
  | _ => Z b
theorem frZ_dc {μ : Mu} {b : Addr} {o : HO} (e : μ.o b = some (.dc o)) : frZ μ Z H S b = H b := by unfold frZ; rw [e]
theorem frZ_bx {μ : Mu} {b : Addr} {P : PySem.W.Frag → List V → HO → Prop} {xs : List DV} (e : μ.o b = some (.bx P xs)) : frZ μ Z H S b = H b := by unfold frZ; rw [e]
theorem frZ_own {μ : Mu} {b : Addr} {xs : List DV} (e : μ.o b = some (.own xs)) (h : b ∉ S) : frZ μ Z H S b = H b := by unfold frZ; rw [e]; exact if_neg h
theorem frZ_none {μ : Mu} {b : Addr} (e : μ.o b = none) : frZ μ Z H S b = Z b := by unfold frZ; rw [e]
def bare (μ : Mu) : Mu := ⟨μ.n, fun _ => none⟩
theorem Rp.back {μ μ3 : Mu} {H3 : Hp} (r : Rp K p q Z μ F H) (ow : OwS μ S) (s : Same (layF F H S) G) (r3 : Rp K p q (frZ μ Z H S) μ3 G H3) (hn : μ3.n = μ.n) : Rp K p q Z μ (rmF G S) H3 ∧ Same F (rmF G S) ∧ ∀ a ∈ S, ∃ vs, G a = some (.lst vs) := by
  have fs : ∀ a ∈ S, F a = none := fun a h => by obtain ⟨xs, e⟩ := ow a h; exact (r.ow _ _ e).1
  have sF : Same F (rmF G S) := fun b u e => by
    have hb : b ∉ S := fun h => by rw [fs b h] at e; cases e
    rw [rmF_out hb]
    exact s _ _ (by rw [layF_out hb]; exact e)
  have hS : ∀ a ∈ S, ∀ vs, H a = some (.lst vs) → G a = some (.lst vs) := fun a h vs e => s _ _ (by rw [layF_in h]; exact e)
  refine ⟨⟨fun b u e => r3.fs _ _ (rmF_some e).2, fun b u e => r3.zs _ _ (by rw [frZ_none (r.zf _ _ e).2.1]; exact e), fun a u e => ?_, fun a xs e => ?_, fun a ds e => ?_, by rw [← hn]; exact r3.pn, ?_, ?_, fun a u e => (by
    obtain ⟨g1, g2, g3, g4⟩ := r.dc a u e
    have hb : a ∉ S := fun m => by obtain ⟨xs, e2⟩ := ow a m; rw [e] at e2; cases e2
    have hz : frZ μ Z H S a = some u := by rw [frZ_dc e]; exact g4
    exact ⟨by rw [rmF_out hb]; exact (r3.zf _ _ hz).1, g2, g3, r3.zs _ _ hz⟩), fun a P xs e => (by
    obtain ⟨g1, g2, g3, vs, o', g4, gp, g5⟩ := r.bx a P xs e
    have hb : a ∉ S := fun m => by obtain ⟨xs, e2⟩ := ow a m; rw [e] at e2; cases e2
    have hz : frZ μ Z H S a = some o' := by rw [frZ_bx (e)]; exact g4
    exact ⟨by rw [rmF_out hb]; exact (r3.zf _ _ hz).1, g2, g3, vs, o', r3.zs _ _ hz, gp, RVs.same sF g5⟩)⟩, sF, fun a h => ?_⟩
  · obtain ⟨_, g2, g3, g4⟩ := r.zf _ _ e
    have := (r3.zf a u (by rw [frZ_none g2]; exact e)).1
    refine ⟨?_, g2, g3, g4⟩
    by_cases hb : a ∈ S
    · exact rmF_in hb
    · rw [rmF_out hb]; exact this
  · obtain ⟨_, g2, g3, vs, g4, g5⟩ := r.ow _ _ e
    by_cases hb : a ∈ S
    · exact ⟨rmF_in hb, g2, g3, vs, r3.fs _ _ (hS a hb vs g4), RVs.same sF g5⟩
    · have hz : frZ μ Z H S a = some (.lst vs) := by rw [frZ_own e hb]; exact g4
      exact ⟨by rw [rmF_out hb]; exact (r3.zf _ _ hz).1, g2, g3, vs, r3.zs _ _ hz, RVs.same sF g5⟩
  · obtain ⟨vs, g1, g2⟩ := r.fz _ _ e
    exact ⟨vs, sF _ _ g1, DqAll.same sF _ _ g2⟩
  · by_cases hb : p ∈ S
    · exact rmF_in hb
    · rw [rmF_out hb]; exact r3.fp
  · by_cases hb : q ∈ S
    · exact rmF_in hb
    · rw [rmF_out hb]; exact r3.fq
  · obtain ⟨xs, e⟩ := ow a h
    obtain ⟨_, _, _, vs, g4, _⟩ := r.ow _ _ e
    exact ⟨vs, hS a h vs g4⟩
theorem Paired.snoc {α β : Type} {P : α → β → Prop} : ∀ {us : List α} {ys : List β} {y : β}, Paired P us (ys ++ [y]) → ∃ vs v, us = vs ++ [v] ∧ Paired P vs ys ∧ P v y
  | _, [], y, h => by
    cases h with
    | cons a b => cases b; exact ⟨[], _, rfl, .nil, a⟩
  | _, z :: ys, y, h => by
    cases h with
    | cons a b =>
      obtain ⟨vs, v, rfl, h1, h2⟩ := Paired.snoc b
      exact ⟨_ :: vs, v, rfl, .cons a h1, h2⟩
end
def dCallL (dp : DSp) (t : DA) : DE := fun δ μ Q => t δ μ fun xs μ1 => ∃ ys x S d, xs = ys ++ [x] ∧ Dt μ1 S x d ∧ OwS μ1 S ∧ dp (ys ++ [.d d]) (bare μ1) fun y μ2 => ∃ r, y = .d r ∧ nl r = true ∧ μ2.n = μ1.n ∧ Q (.d r) μ1
end L2

namespace L2
open PySem PySem.Spec PyProof.Rows
def TrD (h base : Heap) (e : Addr) (cls : Value) (dx : Option Addr) (fl : Value) : Prop :=
  ∃ oe vs T oT ts, h.get? e = some oe ∧ (oe.cls = cls ∧ oe.dict = dx) ∧ oe.data = .fields vs ∧ vs[1]? = some (.ref T) ∧ base.get? T = none ∧ T ≠ e ∧ h.get? T = some oT ∧ oT.data = .fields ts ∧ ts[3]? = some fl
theorem TrD.there {h base : Heap} {e : Addr} {cls : Value} {dx : Option Addr} {fl : Value} (x : TrD h base e cls dx fl) : ∃ ob vs, h.get? e = some ob ∧ ob.cls = cls ∧ ob.dict = dx ∧ ob.data = .fields vs := by
  obtain ⟨oe, vs, _, _, _, he, hc, hd, _⟩ := x
  exact ⟨oe, vs, he, hc.1, hc.2, hd⟩
def FlD (base : Heap) (l : List Env) (e : Addr) (cls : Value) (dx : Option Addr) (h : Heap) : Prop := base.StaysIn h ∧ base.get? e = none ∧ h.FunFrames base l ∧ TrD h base e cls dx .none
section
variable {M : Model} {A : Around} {E : Value → Shared → Prop} {s : Shared}
end
end L2

namespace L2
open PySem PySem.Spec PyProof.Rows
section
variable {prog : Program} {w : World} {A : Around} {E : Value → Shared → Prop} {h : Heap} {g : Array GenState} {d : Drawn} {t : Nat} {os : OsState} {env : Env}
variable {nm q : Str} {C N : Addr} {bs bm bmB : List Value} {hdct : Bool} {sn : List Str} {sub : List Value} {ab : Bool} {col : Option Bool} {dd : Option Addr} {k0 k1 k2 k3 k5 : Option Value} {B newId initId : String}
end
end L2

namespace PySem.F
end PySem.F
namespace L2
open PySem PySem.Spec PyProof.Rows PySem.Calls PySem.W
section
variable {prog : Program} {w : World} {M : Model} {A : Around} {E : Value → Shared → Prop} {h : Heap} {g : Array GenState} {d : Drawn} {t : Nat} {os : OsState}
end
end L2

namespace L2
open PySem PySem.Spec PyProof.Rows PySem.Calls PySem.W
section
variable {prog : Program} {w : World} {M : Model} {A : Around} {E : Value → Shared → Prop} {h : Heap} {g : Array GenState} {d : Drawn} {t : Nat} {os : OsState}
end
end L2

namespace L2
open PySem PySem.Spec PyProof.Rows PySem.Calls PySem.W Builtin Builtin.ObjectAttr
section
variable {prog : Program} {w : World} {M : Model} {A : Around} {E : Value → Shared → Prop} {s : Shared} {K : Frag} {x C : Addr} {R : Result → Shared → Prop}
def onlyVE : List Value → Bool
  | [.type a, .type b, .type c, .type d] => a == "ValueError" && (b == "Exception" && (c == "BaseException" && d == "object"))
  | .ref _ :: r => onlyVE r
  | _ => false
end
end L2

namespace L2
open PySem PySem.Spec PyProof.Rows PySem.Calls PySem.W
abbrev iScope (at_ : Str) : Scope := { kind := .function, names := [(("self" : Str), .local), (at_, .local), (("__class__" : Str), .free), (("super" : Str), .globalImplicit)], isGenerator := false, isCoroutine := false, more := [] }
abbrev iBody (at_ x : Str) (j : Nat) (p0 p1 p2 p3 p4 p5 p6 p7 p8 p9 pa pb pc : Pos) : List Stmt := [.Expr (.Call (.Attribute (.Call (.Name "super" p0) [] [] p1) "__init__" p2) [.JoinedStr [.Constant (.str x) j p3, .FormattedValue (.Name at_ p4) (-1) none p5] p6] [] p7) p8,
    .Assign [.Attribute (.Name "self" p9) at_ pa] (.Name at_ pb) pc]
structure IniT (st : Stmt) (at_ : Str) : Prop where
  args : ∃ ar br : Arg, (defArgs st).posonlyargs ++ (defArgs st).args = [ar, br] ∧ ar.arg = "self"
  bind : ∀ (qual : Str) (kV doc pm ct cdv : Value) (an : Option Addr) (cc : Addr) (a b : Value), bindArgs (ksFn "__init__" qual (defArgs st) (defBody st) (defScope st) .none kV doc pm an cdv ct cc) ⟨[a, b], []⟩ = pure [(("self" : Str), a), (at_, b)]
  body : ∃ p0 p1 p2 p3 p4 p5 p6 p7 p8 p9 pa pb pc x j, x.length ≤ 1000 ∧ (p2.endLine == p7.line) = true ∧ defBody st = iBody at_ x j p0 p1 p2 p3 p4 p5 p6 p7 p8 p9 pa pb pc
  scope : defScope st = iScope at_
  nm : at_ ≠ "self" ∧ at_ ≠ "__class__" ∧ at_ ≠ "super" ∧ at_ ≠ "__debug__" ∧ at_ ≠ "__classdict__"
/-- what the written part says of the class and its __init__ -/
structure XIni (P : Program) (K : Frag) (C f : Addr) (at_ : Str) : Prop where
  fn : ∃ (st : Stmt) (qual : Str) (od : Option Addr) (kV doc pm ct : Value) (an : Option Addr) (cda cc : Addr) (osl : Array (Option Value)), IniT st at_ ∧
    K.lookup f = some ⟨.type "function", od, .func (ksFn "__init__" qual (defArgs st) (defBody st) (defScope st) .none kV doc pm an (.ref cda) ct cc), osl⟩ ∧ codeIn K (.ref cda) qual = true ∧
    (∃ ccl cdd vs ccs file tf, K.lookup cda = some ⟨ccl, cdd, .fields vs, ccs⟩ ∧ vs[2]? = some (.str file tf) ∧ ((P.main.file : Str) == file) = true) ∧
    (∃ cl cld csl, K.lookup cc = some ⟨cl, cld, .cell (some (.ref C)), csl⟩)
  cls : ∃ cd, clsIn K C = some cd ∧ onlyVE cd.mro = true ∧ cd.hasDict = true ∧ alongIn K "__init__" ((cd.mro.dropWhile (· != .ref C)).drop 1) = some (some (.builtin "ValueError.__init__"))
  mC : mroIn K C (.ref C) = some true
  mV : mroIn K C (.type "ValueError") = some true
  mO : mroIn K C (.type "object") = some true
  sup : nsIn K mainGlobals "super" = some none
  opq : nsIn K cStatics "thirdparty.any" = some none
  sa : findIn K (.ref C) "__setattr__" = some (some (.builtin "object.__setattr__"))
  tk : takerIn K C at_ = some none
  top : (P.main.scope.names.lookup ("super" : Str)).isSome = false
section
variable {P : Program} {w : World} {A : Around} {E : Value → Shared → Prop} {s : Shared} {K : Frag} {mg : Str → Option Value} {base : Heap} {C f e t0 : Addr} {at_ : Str}
end
section
variable {P : Program} {w : World} {A : Around} {E : Value → Shared → Prop} {K : Frag} {mg : Str → Option Value} {base : Heap} {C f e t0 : Addr} {at_ : Str}
end
end L2

namespace L2
open PySem PySem.Spec PyProof.Rows
abbrev mroV : List Value := [.type "ValueError", .type "Exception", .type "BaseException", .type "object"]
structure Exc (P : Program) (w : World) (base : Heap) (outer : List Env) (H : Hp) (s : Shared) (H1 : Hp) (a C : Addr) (B : Heap) (dx : Option Addr) (s' : Shared) : Prop where
  os : s'.os = s.os
  bare : AllBare s'.gens
  bB : base.StaysIn B
  fly : FlD B outer a (.ref C) dx s'.heap
  hok : HOk P w H1 B
  keep : ∀ b o, s.heap.get? b = some o → H b = none → b ∉ frs outer → B.get? b = some o
  there : ∀ b o, s.heap.get? b = some o → b ∉ frs outer → ∃ o', B.get? b = some o'
  slot : ∀ b o, s.heap.get? b = some o → b ∈ frs outer → ∃ sl, s'.heap.get? b = some { o with slots := sl }
  free : ∀ b o, s.heap.get? b = some o → H b = none → H1 b = none
  tups : ∀ b xs, H b = some (.tup xs) → H1 b = some (.tup xs)
  frzs : ∀ b o u, H b = some (.frz o u) → H1 b = some (.frz o u)
  tbls : ∀ b ps, H b = some (.tbl ps) → ∃ more, H1 b = some (.tbl (ps ++ more))
def CX1 (P : Program) (w : World) (base : Heap) : CXT := fun outer H s E e s' => ∃ a C H1 B dx, e = .ref a ∧ Exc P w base outer H s H1 a C B dx s' ∧ E (.ref C) dx H1
theorem Exc.un {P : Program} {w : World} {base : Heap} {outer : List Env} {H H1 : Hp} {s s' : Shared} {a C : Addr} {dx : Option Addr} {B h : Heap} (x : Exc P w base outer H s H1 a C B dx s') (hB : B.StaysIn h) (hs : ∀ b o, s.heap.get? b = some o → b ∈ frs outer → ∃ sl, h.get? b = some { o with slots := sl }) : Un (frs outer) [] H H1 s.heap h where
  keep := fun b o q n hb _ => hB b o (x.keep b o q n hb)
  slot := fun b o q _ hb _ => hs b o q hb
  free := fun b o q n _ => x.free b o q n
  there := fun b o q _ => by
    by_cases hb : b ∈ frs outer
    · obtain ⟨sl, e⟩ := hs b o q hb; exact ⟨_, e⟩
    · obtain ⟨o', e⟩ := x.there b o q hb; exact ⟨o', hB _ _ e⟩
  tups := x.tups
  frzs := x.frzs
  tbls := x.tbls
section
variable {X : Cx} {pins : List (Addr × Obj)} {σ : St} {H : Hp} {s : Shared}
end
/-- its class finds attributes as exceptions do -/
structure XGet (K : PySem.W.Frag) (D : Addr) : Prop where
  ga : PySem.W.findIn K (.ref D) "__getattribute__" = some (some (.builtin "BaseException.__getattribute__"))
  hk : PySem.W.findIn K (.ref D) "__getattr__" = some none
  hm : PySem.W.mroIn K D (.type "BaseException") = some true
/-- .. and what isinstance asks of it -/
structure XIsi (K : PySem.W.Frag) (D : Addr) : Prop extends XGet K D where
  hd : PySem.W.hasDictIn K D = true
  ha : PySem.W.findIn K (.ref D) "__class__" = some (some (.builtin "object.__class__"))
  hn : PySem.W.specialIn K (.builtin "object.__class__") "__get__" = some (some (.builtin "getset_descriptor.__get__"))
  htk : PySem.W.takesIn K (.builtin "object.__class__") = some true
  mo : PySem.W.mroIn K D (.type "object") = some true
/-- what the written part says of an exception's class; ini: its own __init__ -/
def excInW (K : PySem.W.Frag) (C : Addr) (bmB : List Value) (newId : String) (ini : Option Value) : Bool := match K.lookup C with
  | some ⟨.type "type", _, .cls cd, sl⟩ => (match cd.mro, sl.toList with
    | .ref C' :: bm, [_, _, _, _, some (.builtin n), _] => C' == C && n == newId && !cd.hasDel && PySem.W.tailIn K bmB bm && PySem.W.nsOkIn K cd.ns && PySem.W.nsIn K cd.ns "__init__" == some ini
    | _, _ => false)
  | _ => false
theorem ns_in_of {K : PySem.W.Frag} {h : Heap} {N : Addr} {mg : Str → Option Value} {n : Str} {ini : Option Value} (X : K.In h) (G : h.Ns N mg) (e : PySem.W.nsIn K N n = some ini) : mg n = ini := by
  obtain ⟨o, es, ep, ho, hd, _, hf⟩ := G
  unfold PySem.W.nsIn at e
  split at e
  · rename_i c d es' n' sl q
    have := X _ _ q
    rw [ho] at this
    cases this
    cases hd
    split at e
    · rename_i en he
      cases e
      rw [← hf]
      unfold nsFind findBy
      rw [← Array.find?_toList, he]
      rfl
    · rename_i he
      split at e
      · cases e
      cases e
      rw [← hf]
      unfold nsFind findBy
      rw [← Array.find?_toList, he]
      rfl
  · cases e
theorem excInW.obj {K : PySem.W.Frag} {C : Addr} {bmB : List Value} {newId : String} {ini : Option Value} {h : Heap} (q : excInW K C bmB newId ini = true) (X : K.In h) :
    ∃ (bm : List Value) (N : Addr) (nm qn : Str) (bs : List Value) (hdct : Bool) (sn : List Str) (sub : List Value) (ab : Bool) (col : Option Bool) (dd : Option Addr) (k0 k1 k2 k3 k5 : Option Value) (mN : Str → Option Value),
      h.get? C = some (excClassObj nm qn C N bs bm hdct sn sub ab col dd k0 k1 k2 k3 k5 newId) ∧ h.Ns N mN ∧ mN "__init__" = ini ∧ OwnTail h bmB bm := by
  unfold excInW at q
  split at q
  · rename_i dd cd sl ho
    split at q
    · rename_i C' bm k0 k1 k2 k3 n k5 hm hs
      simp only [Bool.and_eq_true, beq_iff_eq, Bool.not_eq_true'] at q
      obtain ⟨⟨⟨⟨⟨rfl, rfl⟩, hdel⟩, ht⟩, hok⟩, hni⟩ := q
      obtain ⟨nm, bs, mro, ns, qn, hd, sn, sub, ab, col, del⟩ := cd
      dsimp only at hm hdel hok hni
      subst hm hdel
      have hsl : sl = #[k0, k1, k2, k3, some (.builtin n), k5] := by
        obtain ⟨l⟩ := sl
        simp only at hs
        rw [hs]
      subst hsl
      have hN := Heap.Ns.of_isNs (PySem.W.isNs_of_in X hok)
      exact ⟨bm, ns, nm, qn, bs, hd, sn, sub, ab, col, dd, k0, k1, k2, k3, k5, _, X _ _ ho, hN, ns_in_of X hN hni, PySem.W.tail_of_in X ht⟩
    · cases q
  · cases q
structure XCls (K : PySem.W.Frag) (mg : Str → Option Value) (x : Str) (C : Addr) : Prop where
  m : mg x = some (.ref C)
  q : ∃ bmB newId ini, excInW K C bmB newId ini = true ∧ bmB.contains (.type "BaseException") = true
  n : PySem.W.nsIn K mainGlobals x = some (some (.ref C))
  i : XIsi K C
/-- raised without an __init__ of its own -/
def XRn (K : PySem.W.Frag) (C : Addr) : Prop := excInW K C mroV "ValueError.__new__" none = true
/-- .. with one, of one number -/
structure XRi (P : Program) (K : PySem.W.Frag) (C : Addr) (at_ : Str) : Prop where
  ex : ∃ f, excInW K C mroV "ValueError.__new__" (some (.ref f)) = true ∧ XIni P K C f at_
end L2

namespace L2
open PySem PySem.Spec PyProof.Rows
section
variable {P : Program} {w : World} {K : PySem.W.Frag} {mg : Str → Option Value} {base : Heap}
theorem FnOk.quiet {k : Nat} {f : Addr} {fd : FuncData} {ps : List Str} {sp sp' : Sp} (F : FnOk P w K mg base (CX1 P w base) k f fd ps sp) (h : ∀ vs H Q E, sp' vs H Q E → sp vs H Q E0) : FnOk P w K mg base CX0 k f fd ps sp' :=
  ⟨fun vs H Q E q => F.len _ _ _ _ (h _ _ _ _ q), fun A outer s H args us vs Q E hr he hb hv hs => codeAny_mono (F.run A outer s H args us vs Q E0 hr he hb hv (h _ _ _ _ hs)) fun r s' hq => by
    cases r with
    | error e => obtain ⟨_, _, _, _, _, _, _, z⟩ := hq; exact z.elim
    | ok fl => cases fl <;> exact hq⟩
end
def CalX (P : Program) (w : World) (K : PySem.W.Frag) (mg : Str → Option Value) (base : Heap) (x : Str) (k : Nat) (ps : List Str) (sp : Sp) : Prop :=
  ∃ (f : Addr) (fd : FuncData), FnOk P w K mg base (CX1 P w base) k f fd ps sp ∧ mg x = some (.ref f) ∧ PySem.W.keepIn K (.ref f) = true ∧ Binds K fd ps []
theorem CalX.quiet {P : Program} {w : World} {K : PySem.W.Frag} {mg : Str → Option Value} {base : Heap} {x : Str} {k : Nat} {ps : List Str} {sp sp' : Sp} (c : CalX P w K mg base x k ps sp) (h : ∀ vs H Q E, sp' vs H Q E → sp vs H Q E0) : Cal P w K mg base x k ps sp' := by
  obtain ⟨f, fd, F, m, kp, b⟩ := c
  exact ⟨f, fd, F.quiet h, m, kp, b⟩
/-- an expression that may refuse -/
abbrev TEX := St → Hp → VK → XK → Prop
def XP (X : Cx) (pins : List (Addr × Obj)) (σ : St) (E : XK) (e : Value) (s' : Shared) : Prop := ∃ H0 s0 H1 a C B dx, Inv X pins σ H0 s0 ∧ e = .ref a ∧ Exc X.prog X.w X.base X.stack H0 s0 H1 a C B dx s' ∧ E (.ref C) dx H1
section
variable {X : Cx} {x : Str} {k : Nat} {ps : List Str} {sp : Sp} {e : Expr} {es : List Expr} {t : TA} {te : TEX} {p pos : Pos}
end
abbrev Cx.inExc (X : Cx) (e : Addr) : Cx := { X with A := X.A.mark (some (.ref e)), calm := false, xe := fun _ _ => False }
section
variable {X : Cx} {pins : List (Addr × Obj)} {σ : St} {H : Hp} {s : Shared} {e : Addr}
theorem Inv.inExc (I : Inv X pins σ H s) (e : Addr) : Inv (X.inExc e) pins σ H s :=
  ⟨⟨I.ok.mod, I.ok.kind, I.ok.glob, I.ok.blt, I.ok.above, I.ok.inj, I.ok.has, I.ok.cab, fun z => absurd z (by simp), I.ok.frames, I.ok.stk, I.ok.exf, I.ok.bs, I.ok.bsz, I.ok.noex, I.ok.exfs, I.ok.funs, I.ok.frf⟩, I.os, I.bare, I.base, I.loc, I.cell, I.free, I.freeC, I.pin, I.hok, I.len⟩
end
end L2

namespace L2
open PySem PySem.Spec PyProof.Rows
theorem PS.nox {X : Cx} {st : Stmt} {t : TS} (h : PS X.nox st t) : PS X st t := fun pins s σ H D I hw =>
  wpAny_mono (h pins s σ H D (I.wish _) hw) (fun _ _ q => q.unwish) fun _ _ z => False.elim z
/-- the classes of refusals -/
structure XTab where
  cs : List Str
  ps : List (Str × Sum String Str × Bool)
  ts : List Str := []
  /-- raised without an __init__ of their own -/
  rn : List Str := []
  /-- raised with one: its attribute -/
  ri : List (Str × Str) := []
  /-- named behind except -/
  hs : List Str := []
  /-- a raised one, one behind except: does it hit -/
  mt : List (Str × Str × Bool) := []
def clsU (cm : Str → Addr) : Sum String Str → Value
  | .inl T => .type T
  | .inr n => .ref (cm n)
/-- a class behind except -/
structure XHd (K : PySem.W.Frag) (mg : Str → Option Value) (x : Str) (C : Addr) : Prop where
  m : mg x = some (.ref C)
  c : PySem.W.isClsIn K C = true
  t : PySem.W.typeIn K (.ref C) = some (.type "type")
  b : PySem.W.mroIn K C (.type "BaseException") = some true
structure XM (P : Program) (K : PySem.W.Frag) (mg : Str → Option Value) (cm : Str → Addr) (t : XTab) : Prop where
  cl : ∀ c ∈ t.cs, XCls K mg c (cm c)
  tg : ∀ c ∈ t.ts, mg c = some (.ref (cm c))
  pr : ∀ q ∈ t.ps, PySem.W.kitOne K (.ref (cm q.1)) (clsU cm q.2.1) = some q.2.2
  rn : ∀ c ∈ t.rn, XRn K (cm c)
  ri : ∀ q ∈ t.ri, XRi P K (cm q.1) q.2
  hs : ∀ c ∈ t.hs, XHd K mg c (cm c)
  mt : ∀ q ∈ t.mt, PySem.W.mroIn K (cm q.1) (.ref (cm q.2.1)) = some q.2.2
  na : ∀ q ∈ t.ri, PySem.W.findIn K (.ref (cm q.1)) q.2 = some none
abbrev DX := Str → List (Str × Int) → Mu → Prop
abbrev DSpX := List DV → Mu → DQ → DX → Prop
def LfX (K : PySem.W.Frag) (mg : Str → Option Value) (p q : Addr) (Z F : Hp) (EX : DX) (E : XK) : Prop := ∀ c fs C dx μ F' H', mg c = some (.ref C) → Same F F' → Rp K p q Z μ F' H' → ExF F' dx fs → EX c fs μ → E (.ref C) dx H'
theorem LfX.same {K : PySem.W.Frag} {mg : Str → Option Value} {p q : Addr} {Z F F' : Hp} {EX : DX} {E : XK} (h : LfX K mg p q Z F EX E) (s : Same F F') : LfX K mg p q Z F' EX E := fun c fs C dx μ G H' m s' => h c fs C dx μ G H' m (s.trans s')
section
variable {K : PySem.W.Frag} {mg : Str → Option Value} {E : XK} {EX : DX}
def dRaise (c : Str) (EX : DX) (da : DA) : DS := fun _ δ μ => da δ μ fun xs μ1 => xs.length ≤ 3 ∧ ∃ μ', Sub μ' μ1 ∧ EX c [] μ'
def dRaiseI (c at_ : Str) (EX : DX) (da : DA) : DS := fun _ δ μ => da δ μ fun xs μ1 => ∃ n : Int, xs = [.d (.int n)] ∧ n.natAbs < 1000000000000000000 ∧ ∃ μ', Sub μ' μ1 ∧ EX c [(at_, n)] μ'
def dSetX (dp : DSpX) (da : DA) (i : Nat) (EX : DX) : DS := fun DD δ μ => da δ μ fun xs μ1 => dp xs μ1 (fun y μ2 => DD.nx (δ.set i (some y)) μ2) EX
def dRetX (dp : DSpX) (da : DA) (EX : DX) : DS := fun DD δ μ => da δ μ fun xs μ1 => dp xs μ1 DD.rt EX
def dTrySet (dp : DSpX) (c : Str) (da : DA) (i : Nat) (ds : DS) : DS := fun DD δ μ => da δ μ fun xs μ1 => dp xs μ1 (fun y μ2 => DD.nx (δ.set i (some y)) μ2) fun c2 _ μ2 => c2 = c ∧ ds DD δ μ2
end
end L2

namespace L2
open PySem PySem.Spec PyProof.Rows
def dUpper (e : DE) : DE := fun δ μ Q => e δ μ fun x μ1 => ∃ s : Str, x = .d (.str s) ∧ s.length ≤ 5592405 ∧ Q (.d (.str (Txt.upper s))) μ1
def dDisp1 (i : Nat) (n : Int) : DE := fun δ μ Q => ∃ s : Str, δ[i]? = some (some (.d (.str s))) ∧ Q (.d (.dict [(.str s, .int n)])) μ
def dListS : DR1 := fun xs μ Q => ∃ x : Str, xs = [.d (.str x)] ∧ x.cps.size ≤ 1000 ∧ Q (.d (.list (x.cps.toList.map fun c => .str ⟨#[c]⟩))) μ
end L2

namespace L2
open PySem PySem.Spec PyProof.Rows PySem.SeqAt PySem.MeetsSeq
open AutoSeq1 (wpAny_loadPart')
section
variable {A : Around} {s : Shared}
end
def isT : PyData → Str → Bool
  | .str t, s => decide (t = s)
  | _, _ => false
theorem isT_str {t s : Str} : isT (.str t) s = decide (t = s) := rfl
def dEqT (neg : Bool) : DR2 := fun x y μ Q => ∃ d s, dat μ x = some d ∧ y = .d (.str s) ∧ Q (.d (.bool (if neg then !isT d s else isT d s))) μ
def dNilT : DR2 := fun x y μ Q => ∃ ds, x = .d (.tuple ds) ∧ y = .d (.tuple []) ∧ Q (.d (.bool ds.isEmpty)) μ
def HT (mg : Str → Option Value) (K : PySem.W.Frag) (x : Str) (ns : List Int) : Prop := ∃ a, HC mg x (.ref a) ∧ ∀ H, SqT K H a (ns.map V.int)
end L2

namespace L2
open PySem PySem.Spec PyProof.Rows PySem.SeqAt PySem.MeetsSeq
def dInC (de : DE) (ns : List Int) : DE := fun δ μ Q => de δ μ fun x μ1 => ∃ i : Int, x = .d (.int i) ∧ Q (.d (.bool (decide (i ∈ ns)))) μ1
end L2

namespace L2
open PySem PySem.Spec PyProof.Rows
open AutoSeq1 (wpAny_loadPart')
def dRepZ : DR2 := fun x y μ Q => ∃ ds k, x = .d (.tuple ds) ∧ y = .d (.int k) ∧ ds ≠ [] ∧ 0 ≤ k ∧ k < 1000 ∧ ds.length ≤ 1000 ∧ Q (.d (.tuple (List.replicate k.toNat ds).flatten)) μ
end L2

namespace L2
open PySem PySem.Spec PyProof.Rows
inductive PEw (X : Cx) (e : Expr) (t : TE) : Prop
  | mk : PE X e t → PEw X e t
inductive PSw (X : Cx) (st : Stmt) (t : TS) : Prop
  | mk : PS X st t → PSw X st t
inductive PAs (X : Cx) : List Expr → TA → Prop
  | nil : PAs X [] tNil
  | cns {e : Expr} {es : List Expr} {te : TE} {t : TA} : PE X e te → PAs X es t → starEach (e :: es) X.env = (false, eval e X.env) :: starEach es X.env → PAs X (e :: es) (tCons te t)
inductive PSl (X : Cx) : List Stmt → TS → Prop
  | nil : PSl X [] tNext
  | one {st : Stmt} {t : TS} : PSw X st t → PSl X [st] t
  | cons {st : Stmt} {rest : List Stmt} {t u : TS} : PSw X st t → PSl X rest u → PSl X (st :: rest) (tSeq t u)
theorem PAs.cons {X : Cx} {e : Expr} {es : List Expr} {te : TE} {t : TA} (ha : PE X e te) (hr : PAs X es t) (hs : starEach (e :: es) X.env = (false, eval e X.env) :: starEach es X.env := by rfl) : PAs X (e :: es) (tCons te t) := .cns ha hr hs
theorem PEw.pe {X : Cx} {e : Expr} {t : TE} : PEw X e t → PE X e t
  | .mk h => h
theorem PSw.ps {X : Cx} {e : Stmt} {t : TS} : PSw X e t → PS X e t
  | .mk h => h
theorem PAs.pa {X : Cx} : ∀ {es : List Expr} {t : TA}, PAs X es t → PA X es t
  | _, _, .nil => pa_nil
  | _, _, .cns h r s => pa_cons h r.pa s
end L2

namespace L2
open PySem PySem.Spec PyProof.Rows
def vD : V → DV
  | .non => .d .none
  | .bl b => .d (.bool b)
  | .int i => .d (.int i)
  | .str s => .d (.str s)
  | .ref l => .r l
  | .ty T => .ty T
  | _ => .pen
def toV : DV → Option V
  | .d .none => some .non
  | .d (.bool b) => some (.bl b)
  | .d (.int i) => some (.int i)
  | .d (.str s) => some (.str s)
  | .r l => some (.ref l)
  | _ => none
def toVs : List DV → Option (List V)
  | [] => some []
  | x :: xs => (toV x).bind fun v => (toVs xs).map (v :: ·)
theorem toV_rv {K : PySem.W.Frag} {p : Addr} {F : Hp} {v w : V} {x : DV} (h : RV K p F v x) (e : toV x = some w) : v = w := by
  cases x with
  | d y =>
    cases y with
    | none => cases h; cases e; rfl
    | bool b => cases h; cases e; rfl
    | int i => cases h; cases e; rfl
    | str s => cases h; cases e; rfl
    | _ => cases e
  | r l => cases h; cases e; rfl
  | _ => cases e
/-- flat, or a list of one's own -/
def Pl : V → Bool
  | .non | .bl _ | .int _ | .str _ | .ref _ => true
  | _ => false
theorem pl_rv {K : PySem.W.Frag} {p : Addr} {F : Hp} {v : V} (h : Pl v = true) : RV K p F v (vD v) := by
  cases v with
  | non => exact .non
  | bl b => exact .bl b
  | int i => exact .int i
  | str s => exact .str s
  | ref l => exact rfl
  | _ => cases h
/-- (a, b, ..) -/
def dTupV (d : DA) : DE := fun δ μ Q => d δ μ fun xs μ1 => ∃ vs, toVs xs = some vs ∧ xs.length ≤ sizeLine ∧ Q (.tv vs) μ1
section
variable {K : PySem.W.Frag}
/-- a, b, .. = x -/
def hTupV (n : Nat) (t : DGs) : DG := fun x δ μ Q => ∃ vs, x = .tv vs ∧ vs.length = n ∧ vs.all Pl = true ∧ t (vs.map vD) δ μ Q
/-- x[i] -/
def dIxV : DR2 := fun x y μ Q => ∃ vs i u, x = .tv vs ∧ y = .d (.int i) ∧ atI vs i = some u ∧ Pl u = true ∧ Q (vD u) μ
end
end L2

namespace L2
open PySem PySem.Spec PyProof.Rows
section
variable {K : PySem.W.Frag} {p q : Addr} {Z : Hp} {μ : Mu} {F H : Hp}
theorem Rp.newD (r : Rp K p q Z μ F H) {l : Addr} {o : HO} (h : H l = none) : Rp K p q Z (μ.put l (.dc o)) F (upd H l o) := by
  obtain ⟨f1, f2, f3, f4, f5⟩ := r.free h
  refine ⟨fun b u e => Same.upd h _ _ (r.fs _ _ e), fun b u e => Same.upd h _ _ (r.zs _ _ e), fun a u e => ?_, fun a ys e => ?_, fun a ds e => ?_, r.pn.same (Same.upd h), r.fp, r.fq, fun a u e => ?_, fun a P xs e => (by
    by_cases hb : a = l
    · subst hb; rw [Mu.put_same] at e; cases e
    · rw [Mu.put_ne hb] at e
      obtain ⟨g1, g2, g3, vs, o', g4, gp, g5⟩ := r.bx a P xs e
      exact ⟨g1, g2, g3, vs, o', by rw [upd_ne hb]; exact g4, gp, g5⟩)⟩
  · obtain ⟨g1, g2, g3⟩ := r.zf a u e
    exact ⟨g1, by rw [Mu.put_ne (ne_of_none e f3)]; exact g2, g3⟩
  · by_cases hb : a = l
    · subst hb; rw [Mu.put_same] at e; cases e
    · rw [Mu.put_ne hb] at e
      obtain ⟨g1, g2, g3, ws, g4, g5⟩ := r.ow a ys e
      exact ⟨g1, g2, g3, ws, by rw [upd_ne hb]; exact g4, g5⟩
  · by_cases hb : a = l
    · subst hb; rw [Mu.put_same] at e; cases e
    · rw [Mu.put_ne hb] at e
      exact r.fz a ds e
  · by_cases hb : a = l
    · subst hb
      rw [Mu.put_same] at e
      cases e
      exact ⟨f2, f4, f5, upd_same⟩
    · rw [Mu.put_ne hb] at e
      obtain ⟨g1, g2, g3, g4⟩ := r.dc a u e
      exact ⟨g1, g2, g3, by rw [upd_ne hb]; exact g4⟩
theorem Rp.setD (r : Rp K p q Z μ F H) {l : Addr} {o o' : HO} (h : μ.o l = some (.dc o)) : Rp K p q Z (μ.put l (.dc o')) F (upd H l o') := by
  obtain ⟨f1, f2, f3, f4⟩ := r.dc _ _ h
  refine ⟨fun b u e => ?_, fun b u e => ?_, fun a u e => ?_, fun a zs e => ?_, fun a ds e => ?_, r.pn.other f2 f3, r.fp, r.fq, fun a u e => ?_, fun a P xs e => (by
    by_cases hb : a = l
    · subst hb; rw [Mu.put_same] at e; cases e
    · rw [Mu.put_ne hb] at e
      obtain ⟨g1, g2, g3, vs, o', g4, gp, g5⟩ := r.bx a P xs e
      exact ⟨g1, g2, g3, vs, o', by rw [upd_ne hb]; exact g4, gp, g5⟩)⟩
  · rw [upd_ne (by rintro rfl; rw [f1] at e; cases e)]; exact r.fs _ _ e
  · rw [upd_ne (by rintro rfl; have := (r.zf _ _ e).2.1; rw [h] at this; cases this)]; exact r.zs _ _ e
  · obtain ⟨g1, g2, g3⟩ := r.zf a u e
    exact ⟨g1, by rw [Mu.put_ne (by rintro rfl; rw [h] at g2; cases g2)]; exact g2, g3⟩
  · by_cases hb : a = l
    · subst hb; rw [Mu.put_same] at e; cases e
    · rw [Mu.put_ne hb] at e
      obtain ⟨g1, g2, g3, vs, g4, g5⟩ := r.ow a zs e
      exact ⟨g1, g2, g3, vs, by rw [upd_ne hb]; exact g4, g5⟩
  · by_cases hb : a = l
    · subst hb; rw [Mu.put_same] at e; cases e
    · rw [Mu.put_ne hb] at e
      exact r.fz a ds e
  · by_cases hb : a = l
    · subst hb
      rw [Mu.put_same] at e
      cases e
      exact ⟨f1, f2, f3, upd_same⟩
    · rw [Mu.put_ne hb] at e
      obtain ⟨g1, g2, g3, g4⟩ := r.dc a u e
      exact ⟨g1, g2, g3, by rw [upd_ne hb]; exact g4⟩
theorem ky_rv {v : V} {k : Key} (h : Dq K F v (kyD k)) : v = kV k := by
  cases k with
  | inl i => cases h; rfl
  | inr s => cases h; rfl
theorem kys_rv : ∀ {vs : List V} {ks : List Key}, DqAll K F vs (ks.map kyD) → vs = ks.map kV
  | _, [], h => by cases h; rfl
  | _, k :: ks, h => by
    cases h with
    | cons a b => rw [ky_rv a, kys_rv b]; rfl
/-- a dict of one's own holds this, and the value is a key to it -/
def HasK (μ : Mu) (l : Addr) (y : DV) (r : Option V) : Prop :=
  (∃ kvs k, μ.o l = some (.dc (.dK kvs)) ∧ y = .d (kyD k) ∧ r = valV kvs k) ∨ ∃ kvs ks, μ.o l = some (.dc (.dT kvs)) ∧ y = .d (.tuple (ks.map kyD)) ∧ r = valV kvs ks
theorem Rp.dget (r : Rp K p q Z μ F H) {l : Addr} {y : DV} {v : V} {o : Option V} (h : HasK μ l y o) (rv : RV K p F v y) : DGet H l v o := by
  rcases h with ⟨kvs, k, e, rfl, rfl⟩ | ⟨kvs, ks, e, rfl, rfl⟩
  · rw [ky_rv rv]
    exact .k (r.dc _ _ e).2.2.2
  · obtain ⟨a, vs, rfl, ha, hv⟩ := tup_inv rv
    rw [kys_rv hv] at ha
    exact .t (r.dc _ _ e).2.2.2 (r.fs _ _ ha)
end
section
variable {K : PySem.W.Frag}
/-- {} -/
def dDNewO (T : Bool) : DE := fun δ μ Q => ∀ l, μ.o l = none → Q (.r l) (μ.put l (.dc (if T = true then .dT [] else .dK [])))
theorem se_dnewOK : SE K tDNewK (dDNewO false) := by
  intro p q Z σ δ μ F H QD Q rs rp lf h
  intro a ha
  exact lf _ _ _ _ _ (Same.refl _) (rp.newD ha) rv_r (h a (rp.free ha).1)
/-- y in d -/
def dDIn (neg : Bool) (dy dd : DE) : DE := fun δ μ Q => dy δ μ fun y μ1 => dd δ μ1 fun x μ2 => ∃ l o, x = .r l ∧ HasK μ2 l y o ∧ Q (.d (.bool (if neg = true then !o.isSome else o.isSome))) μ2
/-- d[y] -/
def dDGet (dd dy : DE) : DE := fun δ μ Q => dd δ μ fun x μ1 => dy δ μ1 fun y μ2 => ∃ l v, x = .r l ∧ HasK μ2 l y (some v) ∧ Pl v = true ∧ Q (vD v) μ2
theorem se_dget {ty td : TE} {dy dd : DE} (hd : SE K td dd) (hy : SE K ty dy) : SE K (tDGet td ty) (dDGet dd dy) := by
  intro p q Z σ δ μ F H QD Q rs rp lf h
  refine hd p q Z σ δ μ F H _ _ rs rp (fun u x μ1 F1 H1 s1 rp1 rv1 h1 => ?_) h
  refine hy p q Z σ δ μ1 F1 H1 _ _ (rs.same s1) rp1 (fun w y μ2 F2 H2 s2 rp2 rv2 h2 => ?_) h1
  obtain ⟨l, v, rfl, hk, hp, h2⟩ := h2
  cases rv1
  exact ⟨l, v, rfl, rp2.dget hk rv2, lf _ _ _ _ _ (s1.trans s2) rp2 (pl_rv hp) h2⟩
/-- what d is behind d[y] = v -/
def PutK (μ : Mu) (l : Addr) (y : DV) (v : V) (μ' : Mu) : Prop :=
  (∃ kvs k, μ.o l = some (.dc (.dK kvs)) ∧ y = .d (kyD k) ∧ kvs.length < sizeLine ∧ μ' = μ.put l (.dc (.dK (putK kvs k v)))) ∨
  ∃ kvs ks, μ.o l = some (.dc (.dT kvs)) ∧ y = .d (.tuple (ks.map kyD)) ∧ kvs.length < sizeLine ∧ μ' = μ.put l (.dc (.dT (putK kvs ks v)))
theorem Rp.dput {p q : Addr} {Z : Hp} {μ μ' : Mu} {F H : Hp} (r : Rp K p q Z μ F H) {l : Addr} {y : DV} {w v : V} (h : PutK μ l y v μ') (rv : RV K p F w y) : ∃ H', DPut H l w v H' ∧ Rp K p q Z μ' F H' := by
  rcases h with ⟨kvs, k, e, rfl, hl, rfl⟩ | ⟨kvs, ks, e, rfl, hl, rfl⟩
  · rw [ky_rv rv]
    exact ⟨_, .k (r.dc _ _ e).2.2.2 hl, r.setD e⟩
  · obtain ⟨a, vs, rfl, ha, hv⟩ := tup_inv rv
    rw [kys_rv hv] at ha
    exact ⟨_, .t (r.dc _ _ e).2.2.2 (r.fs _ _ ha) hl, r.setD e⟩
def dDPut (dd dy dv : DE) : DS := fun D δ μ => dv δ μ fun z μ1 => dd δ μ1 fun x μ2 => dy δ μ2 fun y μ3 => ∃ l v μ4, toV z = some v ∧ x = .r l ∧ PutK μ3 l y v μ4 ∧ D.nx δ μ4
theorem ss_dput {td ty tv : TE} {dd dy dv : DE} (hd : SE K td dd) (hy : SE K ty dy) (hv : SE K tv dv) : SS K (sDPut td ty tv) (dDPut dd dy dv) := by
  intro p q Z σ δ μ F H DD D rs rp lf h
  refine hv p q Z σ δ μ F H _ _ rs rp (fun v0 z μ1 F1 H1 s1 rp1 rv1 h1 => ?_) h
  refine hd p q Z σ δ μ1 F1 H1 _ _ (rs.same s1) rp1 (fun u x μ2 F2 H2 s2 rp2 rv2 h2 => ?_) h1
  refine hy p q Z σ δ μ2 F2 H2 _ _ (rs.same (s1.trans s2)) rp2 (fun w y μ3 F3 H3 s3 rp3 rv3 h3 => ?_) h2
  obtain ⟨l, v, μ4, ez, rfl, hp, h3⟩ := h3
  cases rv2
  have ev := toV_rv rv1 ez
  subst ev
  obtain ⟨H4, g, rp4⟩ := rp3.dput hp rv3
  exact ⟨l, H4, rfl, g, lf.nx _ _ _ _ _ ((s1.trans s2).trans s3) (rs.same ((s1.trans s2).trans s3)) rp4 h3⟩
end
end L2

namespace L2
open PySem PySem.Spec PyProof.Rows PySem.SeqAt PySem.MeetsSeq
open AutoSeq1 (wpAny_loadPart')
def lexLe : List Int → List Int → Bool
  | [], _ => true
  | _ :: _, [] => false
  | a :: as, b :: bs => if a = b then lexLe as bs else decide (a ≤ b)
def dLeT : DR2 := fun x y μ Q => ∃ as bs : List Int, x = .d (.tuple (as.map PyData.int)) ∧ y = .d (.tuple (bs.map PyData.int)) ∧ Q (.d (.bool (lexLe as bs))) μ
end L2

namespace L2
open PySem PySem.Spec PyProof.Rows
open AutoSeq1 (wpAny_loadPart')
section
variable {prog : Program} {w : World} {A : Around} {E : Value → Shared → Prop} {s : Shared}
end
def dLenT : DR1 := fun xs μ Q => ∃ l kvs, xs = [.r l] ∧ μ.o l = some (.dc (.dT kvs)) ∧ Q (.d (.int kvs.length)) μ
def rLenK : List V → Hp → VK → Prop := fun xs H Q => ∃ a kvs, xs = [V.ref a] ∧ H a = some (.dK kvs) ∧ Q (.int kvs.length) H
theorem call_lenK {X : Cx} : CallR X (.builtin "len") rLenK := call_lenD
def dLenK : DR1 := fun xs μ Q => ∃ l kvs, xs = [.r l] ∧ μ.o l = some (.dc (.dK kvs)) ∧ Q (.d (.int kvs.length)) μ
theorem sb_lenK {K : PySem.W.Frag} : SB K rLenK dLenK := by
  intro p q Z vs xs μ F H QD Q rp rv lf h
  obtain ⟨l, kvs, rfl, e, h⟩ := h
  cases rv with
  | cons r rr =>
    cases rr
    cases r
    exact ⟨l, kvs, rfl, (rp.dc _ _ e).2.2.2, lf _ _ _ _ _ (Same.refl _) rp rv_int h⟩
end L2

namespace L2
open PySem PySem.Spec PyProof.Rows PySem.SeqAt PySem.MeetsSeq
open AutoSeq1 (wpAny_loadPart')
mutual
def ltD : PyData → PyData → Option Bool
  | .int a, .int b => some (decide (a < b))
  | .str a, .str b => some (decide (a.cps.toList < b.cps.toList))
  | .tuple as, .tuple bs => ltDs as bs
  | _, _ => none
def ltDs : List PyData → List PyData → Option Bool
  | [], [] => some false
  | [], _ :: _ => some true
  | _ :: _, [] => some false
  | a :: as, b :: bs => if PyData.eqv a b = true then ltDs as bs else ltD a b
end
def LtV (A : Around) (s : Shared) (a b : Value) (r : Bool) : Prop :=
  ∀ (prog : Program) (w : World) (E : Value → Shared → Prop) (Q : Value → Shared → Prop), Q (.bool r) s → wpAny (model prog w) A (richCompare .Lt a b) Q E s
set_option maxHeartbeats 2000000 in
theorem tuple_ltAt (l b : Addr) (items items2 : Array Value) (n n2 : Nat) (dd dd2 : Option Addr) (sl sl2 : Array (Option Value)) (xs ys : List PyData) (r : Bool) (hr : ltDs xs ys = some r)
    (z1 : items.size = xs.length) (z2 : items2.size = ys.length) :
    Meets (Builtin.«tuple.__lt__» ⟨[.ref l, .ref b], []⟩)
      (fun A R s => s.heap.get? l = some { cls := .type "tuple", dict := dd, data := .seq items n, slots := sl } ∧ s.heap.get? b = some { cls := .type "tuple", dict := dd2, data := .seq items2 n2, slots := sl2 } ∧
        (∀ j (h : j < items.size) (h' : j < items2.size), EqAt A.in1 s items[j] items2[j] (PyData.eqv (xs.getD j .none) (ys.getD j .none))) ∧
        (∀ j (h : j < items.size) (h' : j < items2.size) q, ltD (xs.getD j .none) (ys.getD j .none) = some q → LtV A.in1 s items[j] items2[j] q) ∧
        R (.ok (.ret (.bool r))) s) :=
  .of_wp fun prog w A R s h => by
    obtain ⟨hp, g, d, tk, os⟩ := s; obtain ⟨hl, hb, he, hlt, h⟩ := h
    have f2 := AutoSeq1.sub_tuple_tuple
    have hZ : (items.toList.zip items2.toList).length = min items.size items2.size := by simp
    wp_walk using wpAny_loadPart' hl, wpAny_loadPart' hb, wpAny_forIn_list _ (fun rest b s' => b.1 = none ∧ s' = ⟨hp, g, d, tk, os⟩ ∧ ∃ i, rest = (items.toList.zip items2.toList).drop i ∧ i ≤ min items.size items2.size ∧
      ltDs (xs.drop i) (ys.drop i) = some r) _
    case turn =>
      rintro ⟨y, x⟩ rest b s' ⟨hb', rfl, i, hz, _, hR⟩
      have hlz : i < (items.toList.zip items2.toList).length := by
        rcases Nat.lt_or_ge i (items.toList.zip items2.toList).length with h' | h'
        · exact h'
        · rw [List.drop_of_length_le h'] at hz; cases hz
      have hm : i < min items.size items2.size := hZ ▸ hlz
      have h1 : i < items.size := Nat.lt_of_lt_of_le hm (Nat.min_le_left _ _)
      have h2 : i < items2.size := Nat.lt_of_lt_of_le hm (Nat.min_le_right _ _)
      rw [List.drop_eq_getElem_cons hlz] at hz
      injection hz with hyx hrest
      have hy : y = items[i] := by have := congrArg Prod.fst hyx; simpa using this
      have hx : x = items2[i] := by have := congrArg Prod.snd hyx; simpa using this
      have ha : i < xs.length := by omega
      have hbb : i < ys.length := by omega
      subst hy hx
      rw [List.drop_eq_getElem_cons ha, List.drop_eq_getElem_cons hbb, ltDs] at hR
      have heq := he i h1 h2
      have hl2 := hlt i h1 h2
      rw [show xs.getD i .none = xs[i] by rw [List.getD_eq_getElem?_getD, List.getElem?_eq_getElem ha]; rfl, show ys.getD i .none = ys[i] by rw [List.getD_eq_getElem?_getD, List.getElem?_eq_getElem hbb]; rfl] at heq hl2
      refine wpAny_bind (heq prog w _ _ ?_)
      by_cases hab : PyData.eqv xs[i] ys[i] = true
      · rw [if_pos hab] at hR
        rw [hab]
        wp_walk
        exact ⟨rfl, rfl, i + 1, hrest, by omega, hR⟩
      · rw [if_neg hab] at hR
        rw [Bool.not_eq_true] at hab
        rw [hab]
        have hl3 : ∀ {E : Value → Shared → Prop} {Q : Value → Shared → Prop}, Q (.bool r) ⟨hp, g, d, tk, os⟩ → wpAny (model prog w) A.in1 (richCompare .Lt items[i] items2[i]) Q E ⟨hp, g, d, tk, os⟩ := fun hq => hl2 r hR prog w _ _ hq
        wp_walk using hl3
        exact ⟨_, rfl, h⟩
    case fin =>
      rintro ⟨b1, b2⟩ s' ⟨hb', rfl, i, hz, hle, hR⟩
      simp only at hb'
      subst hb'
      have hge : min items.size items2.size ≤ i := by
        rcases Nat.lt_or_ge i (items.toList.zip items2.toList).length with h' | h'
        · rw [List.drop_eq_getElem_cons h'] at hz; cases hz
        · exact hZ ▸ h'
      wp_walk
      refine ⟨_, rfl, ?_⟩
      have e : Builtin.Tuple.tupleCompareSizes CmpOp.Lt items.size items2.size = .bool r := by
        have ei : i = min xs.length ys.length := by omega
        rw [z1, z2]
        by_cases h1 : xs.length ≤ i
        · rw [List.drop_of_length_le h1] at hR
          by_cases h2 : ys.length ≤ i
          · rw [List.drop_of_length_le h2, ltDs] at hR
            cases hR
            simp [Builtin.Tuple.tupleCompareSizes]; omega
          · rw [List.drop_eq_getElem_cons (show i < ys.length by omega), ltDs] at hR
            cases hR
            simp [Builtin.Tuple.tupleCompareSizes]; omega
        · have h2 : ys.length ≤ i := by omega
          rw [List.drop_of_length_le h2, List.drop_eq_getElem_cons (show i < xs.length by omega), ltDs] at hR
          cases hR
          simp [Builtin.Tuple.tupleCompareSizes]; omega
      rw [e]; exact h
    case h =>
      exact ⟨rfl, rfl, 0, rfl, Nat.zero_le _, by simpa using hr⟩
theorem rc_lt_int {prog : Program} {w : World} {A : Around} {E : Value → Shared → Prop} {s : Shared} {a b : Int} {t u : Tok} {Q : Value → Shared → Prop} (h : Q (.bool (decide (a < b))) s) : wpAny (model prog w) A (richCompare .Lt (.int a t) (.int b u)) Q E s := PySem.P.lt_int h
theorem rc_lt_str {prog : Program} {w : World} {A : Around} {E : Value → Shared → Prop} {s : Shared} {a b : Str} {t u : Tok} {Q : Value → Shared → Prop} (h : Q (.bool (decide (a.cps.toList < b.cps.toList))) s) : wpAny (model prog w) A (richCompare .Lt (.str a t) (.str b u)) Q E s := PySem.P.lt_str h
theorem ltD_inv : ∀ {a b : PyData} {r : Bool}, ltD a b = some r → (∃ x y, a = .int x ∧ b = .int y ∧ r = decide (x < y)) ∨ (∃ x y : Str, a = .str x ∧ b = .str y ∧ r = decide (x.cps.toList < y.cps.toList)) ∨ ∃ xs ys, a = .tuple xs ∧ b = .tuple ys ∧ ltDs xs ys = some r := by
  intro a b r h
  cases a <;> cases b <;> first | (rw [ltD] at h; cases h; exact .inl ⟨_, _, rfl, rfl, rfl⟩) | (rw [ltD] at h; cases h; exact .inr (.inl ⟨_, _, rfl, rfl, rfl⟩)) | (rw [ltD] at h; exact .inr (.inr ⟨_, _, rfl, rfl, h⟩)) | (simp [ltD] at h; done)
theorem dep_at : ∀ {xs : List PyData} {j : Nat} {n : Nat}, PyData.depthAll xs ≤ n → (xs.getD j .none).depth ≤ n
  | [], j, n, h => by rw [List.getD_nil, PyData.depth]; exact Nat.zero_le _
  | x :: xs, 0, n, h => by rw [PyData.depthAll] at h; rw [List.getD_cons_zero]; omega
  | x :: xs, j + 1, n, h => by rw [PyData.depthAll] at h; rw [List.getD_cons_succ]; exact dep_at (by omega)
theorem lay_at : ∀ {xs : List PyData} {j : Nat}, PyData.canLayAll0 xs = true → (xs.getD j .none).canLay0 = true
  | [], j, h => rfl
  | x :: xs, 0, h => by rw [PyData.canLayAll0, Bool.and_eq_true] at h; rw [List.getD_cons_zero]; exact h.1
  | x :: xs, j + 1, h => by rw [PyData.canLayAll0, Bool.and_eq_true] at h; rw [List.getD_cons_succ]; exact lay_at h.2
theorem reads_at {h : Heap} : ∀ {xs : List PyData} {vs : List Value} {as : List Addr} {j : Nat} (hj : j < vs.length), ReadsAll h vs xs as → ∃ bs, Reads h vs[j] (xs.getD j .none) bs
  | [], _, _, j, hj, r => by cases r; exact absurd hj (Nat.not_lt_zero _)
  | x :: xs, _, _, 0, hj, r => by cases r with | cons a b => exact ⟨_, a⟩
  | x :: xs, _, _, j + 1, hj, r => by cases r with | cons a b => exact reads_at (Nat.lt_of_succ_lt_succ hj) b
theorem ltAt_reads : ∀ (n : Nat) (da db : PyData) (A : Around) (s : Shared) (a b : Value) (as bs : List Addr) (r : Bool), Reads s.heap a da as → Reads s.heap b db bs → da.canLay0 = true → db.canLay0 = true →
    da.depth ≤ n → db.depth ≤ n → A.units + n < cLine → ltD da db = some r → LtV A s a b r := by
  intro n
  induction n with
  | zero =>
    intro da db A s a b as bs r ra rb la lb d1 d2 hu h
    rcases ltD_inv h with ⟨x, y, rfl, rfl, rfl⟩ | ⟨x, y, rfl, rfl, rfl⟩ | ⟨xs, ys, rfl, rfl, h⟩
    · cases ra; cases rb
      intro prog w E Q hq
      exact rc_lt_int hq
    · cases ra; cases rb
      intro prog w E Q hq
      exact rc_lt_str hq
    · rw [PyData.depth] at d1; omega
  | succ n ih =>
    intro da db A s a b as bs r ra rb la lb d1 d2 hu h
    rcases ltD_inv h with ⟨x, y, rfl, rfl, rfl⟩ | ⟨x, y, rfl, rfl, rfl⟩ | ⟨xs, ys, rfl, rfl, h⟩
    · cases ra; cases rb
      intro prog w E Q hq
      exact rc_lt_int hq
    · cases ra; cases rb
      intro prog w E Q hq
      exact rc_lt_str hq
    · cases ra with
      | @tuple a o vs n1 _ as h1 h2 h3 h4 =>
        cases rb with
        | @tuple b o2 ws n2 _ bs k1 k2 k3 k4 =>
          obtain ⟨oc, od, odt, osl⟩ := o
          obtain ⟨oc2, od2, odt2, osl2⟩ := o2
          simp only at h2 h3 k2 k3
          subst h2 h3 k2 k3
          rw [PyData.canLay0] at la lb
          rw [PyData.depth] at d1 d2
          have d1 : PyData.depthAll xs ≤ n := by omega
          have d2 : PyData.depthAll ys ≤ n := by omega
          intro prog w E Q hq
          have l1 : vs.size = xs.length := by rw [← Array.length_toList]; exact ReadsAll.length _ _ _ h4
          have l2 : ws.size = ys.length := by rw [← Array.length_toList]; exact ReadsAll.length _ _ _ k4
          have e1 : A.in1.units = A.units + 1 := rfl
          exact richCompare_meets_room (op := .Lt) ⟨_, h1, rfl⟩ ⟨_, k1, rfl⟩ F.slot_tuple_lt F.entry_tuple_lt (F.args_tuple_lt_2 _ _) (tuple_ltAt a b vs ws n1 n2 od od2 osl osl2 xs ys r h l1 l2)
            ⟨h1, k1, fun j j1 j2 => by
                have := eqAt_readsAll xs ys A.in1 s vs.toList ws.toList _ _ h4 k4 la lb (by rw [e1]; omega) j (by simpa using j1) (by simpa using j2)
                simpa [pairEq] using this,
              fun j j1 j2 q hj => by
                obtain ⟨_, r1⟩ := reads_at (j := j) (by simpa using j1) h4
                obtain ⟨_, r2⟩ := reads_at (j := j) (by simpa using j2) k4
                have := ih (xs.getD j .none) (ys.getD j .none) A.in1 s _ _ _ _ q r1 r2 (lay_at la) (lay_at lb) (dep_at d1) (dep_at d2) (by rw [e1]; omega) hj
                simpa using this,
              (fun x => nomatch x), hq⟩ (by omega)
end L2

namespace L2
open PySem PySem.Spec PyProof.Rows
section
variable {prog : Program} {w : World} {A : Around} {R : Result → Shared → Prop} {I : Addr} {fp wr : List Addr} {n : Nat} {P : Nat → Value → Prop} {St : Nat → Heap → Prop} {h0 : Heap}
end
def lxL : List Int → List Int → Bool
  | [], [] => false
  | [], _ :: _ => true
  | _ :: _, [] => false
  | a :: as, b :: bs => if a = b then lxL as bs else decide (a < b)
theorem lx_irrefl : ∀ a, lxL a a = false
  | [] => rfl
  | a :: as => by rw [lxL, if_pos rfl]; exact lx_irrefl as
theorem lx_trans : ∀ a b c, lxL a b = true → lxL b c = true → lxL a c = true
  | [], [], _, h, _ => by cases h
  | [], _ :: _, [], _, h => by cases h
  | [], _ :: _, _ :: _, _, _ => rfl
  | _ :: _, [], _, h, _ => by cases h
  | _ :: _, _ :: _, [], _, h => by cases h
  | a :: as, b :: bs, c :: cs, h1, h2 => by
    rw [lxL] at h1 h2 ⊢
    by_cases e1 : a = b
    · subst e1
      rw [if_pos rfl] at h1
      by_cases e2 : a = c
      · subst e2
        rw [if_pos rfl] at h2 ⊢
        exact lx_trans as bs cs h1 h2
      · rw [if_neg e2] at h2 ⊢; exact h2
    · rw [if_neg e1, decide_eq_true_eq] at h1
      by_cases e2 : b = c
      · subst e2
        rw [if_neg e1]; exact decide_eq_true h1
      · rw [if_neg e2, decide_eq_true_eq] at h2
        rw [if_neg (by omega)]; exact decide_eq_true (by omega)
/-- data that are compared by keys -/
def Keyd (kf : PyData → List Int) (ds : List PyData) : Prop := PyData.canLayAll0 ds = true ∧ PyData.depthAll ds ≤ 60 ∧ ∀ x ∈ ds, ∀ y ∈ ds, ltD x y = some (lxL (kf x) (kf y))
theorem DpAll.len {K : PySem.W.Frag} {H : Hp} {xs : List V} {ds : List PyData} (h : DpAll K H xs ds) : xs.length = ds.length := h.length
end L2

namespace L2
open PySem PySem.Spec PyProof.Rows
theorem Keyd.lay {kf : PyData → List Int} {ds : List PyData} (h : Keyd kf ds) : PyData.canLayAll0 ds = true := h.1
theorem DqAll.at {K : PySem.W.Frag} {F : Hp} : ∀ {xs : List V} {ds : List PyData} {i : Nat} {d : PyData} {v : V}, DqAll K F xs ds → ds[i]? = some d → xs[i]? = some v → Dq K F v d
  | _, _, i, d, v, .nil, h, _ => by simp at h
  | _, _, 0, d, v, .cons a b, h, e => by simp at h e; subst h e; exact a
  | _, _, i + 1, d, v, .cons a b, h, e => DqAll.at (i := i) b (by simpa using h) (by simpa using e)

theorem ltDs_ints : ∀ as bs : List Int, ltDs (as.map PyData.int) (bs.map PyData.int) = some (lxL as bs)
  | [], [] => by rw [List.map_nil, ltDs]; rfl
  | [], b :: bs => by rw [List.map_nil, List.map_cons, ltDs]; rfl
  | a :: as, [] => by rw [List.map_nil, List.map_cons, ltDs]; rfl
  | a :: as, b :: bs => by
    rw [List.map_cons, List.map_cons, ltDs, eqv_ii, lxL]
    by_cases h : a = b
    · rw [decide_eq_true h, if_pos rfl, if_pos h]; exact ltDs_ints as bs
    · rw [decide_eq_false h, if_neg (by decide), if_neg h, ltD]
theorem lt_two (a b c d : Int) : ltD (.tuple [.int a, .int b]) (.tuple [.int c, .int d]) = some (lxL [a, b] [c, d]) := by
  rw [ltD]; exact ltDs_ints [a, b] [c, d]
end L2

namespace L2
open PySem PySem.Spec PyProof.Rows
def hLs (n : Nat) (t : DGs) : DG := fun x δ μ Q => ∃ xs, its μ x = some xs ∧ xs.length = n ∧ t xs δ μ Q
end L2

namespace L2
open PySem PySem.Spec PyProof.Rows
def ItB (h : Heap) (b : Bool) (it src : Addr) (k : Nat) : Prop := (b = true ∧ IsTupIter h it src k) ∨ (b = false ∧ h.IsListIter it src k)
def AtB (h : Heap) (b : Bool) (src : Addr) (xs : Array Value) : Prop := (b = true ∧ IsTup h src xs) ∨ (b = false ∧ h.IsList src xs)
theorem ItB.ext {h h' : Heap} {b : Bool} {z it src : Addr} {k : Nat} (x : ItB h b it src k) (s : Heap.ExtBut z h h') (n : it ≠ z) : ItB h' b it src k := x.imp (fun ⟨e, y⟩ => ⟨e, y.extBut s n⟩) fun ⟨e, y⟩ => ⟨e, y.extBut s n⟩
theorem AtB.ext {h h' : Heap} {b : Bool} {z src : Addr} {xs : Array Value} (x : AtB h b src xs) (s : Heap.ExtBut z h h') (n : src ≠ z) : AtB h' b src xs := x.imp (fun ⟨e, y⟩ => ⟨e, y.extBut s n⟩) fun ⟨e, y⟩ => ⟨e, y.extBut s n⟩
theorem ItB.keep {h h' : Heap} {b : Bool} {it src : Addr} {k : Nat} (x : ItB h b it src k) (s : ∀ o, h.get? it = some o → h'.get? it = some o) : ItB h' b it src k :=
  x.imp (fun ⟨e, o, ho, r⟩ => ⟨e, o, s o ho, r⟩) fun ⟨e, y⟩ => ⟨e, y.at s⟩
theorem ItB.obj {h : Heap} {b : Bool} {it src : Addr} {k : Nat} (x : ItB h b it src k) : ∃ o, h.get? it = some o ∧ o.data = .fields #[.ref src, .int k 0] := by
  rcases x with ⟨_, o, ho, _, d⟩ | ⟨_, o, ho, _, d⟩ <;> exact ⟨o, ho, d⟩
section
variable {prog : Program} {w : World} {A : Around} {E : Value → Shared → Prop} {s : Shared}
end
theorem AtB.push {h : Heap} {b : Bool} {l : Addr} {xs : Array Value} (x : AtB h b l xs) (o : Obj) : AtB (h.push o) b l xs := x.imp (fun ⟨e, y⟩ => ⟨e, y.keeps fun _ _ e => Heap.get?_push_of_some _ e⟩) fun ⟨e, y⟩ => ⟨e, y.push o⟩
section
variable {prog : Program} {w : World} {A : Around} {E : Value → Shared → Prop} {s : Shared}
end
/-- a list or a tuple, as data -/
def sqD : Bool → List PyData → PyData
  | true, ds => .tuple ds
  | false, ds => .list ds
def jZipB (b1 b2 : Bool) (e f : DE) : DI := fun δ μ R => dEsc e δ μ fun x μ1 => dEsc f δ μ1 fun y μ2 => ∃ ds es, x = .d (sqD b1 ds) ∧ y = .d (sqD b2 es) ∧ R (zpI ds es) μ2
end L2

namespace L2
open PySem PySem.Spec PyProof.Rows
theorem Paired.erase {α β : Type} {P : α → β → Prop} : ∀ (n : Nat) {xs : List α} {ys : List β}, Paired P xs ys → Paired P (xs.eraseIdx n) (ys.eraseIdx n)
  | _, _, _, .nil => by simpa using Paired.nil
  | 0, _, _, .cons _ b => b
  | n + 1, _, _, .cons a b => .cons a (Paired.erase n b)
def dPopAt : DV → List DV → Mu → DQ → Prop := fun x vs μ Q => ∃ l xs y, ∃ i : Nat, x = .r l ∧ vs = [.d (.int i)] ∧ μ.o l = some (.own xs) ∧ i < 2 ^ 63 ∧ xs[i]? = some y ∧ Q y (μ.put l (.own (xs.eraseIdx i)))
theorem seq_nat {i n : Nat} (h : i < n) : seqIndex? (i : Int) n = some i := by
  unfold seqIndex?
  have h1 : ¬ ((i : Int) < 0) := by omega
  simp [h1, h]
theorem sm_popAt {K : PySem.W.Frag} : SM K "list" rPopAt dPopAt ownT := ⟨ty_own, by
  intro p q Z v x vs xs μ F H QD Q rp rv rvs lf h
  obtain ⟨l, ys, y, i, rfl, rfl, e, hi, hy, h⟩ := h
  cases rv
  cases rvs with
  | cons r rr =>
    cases rr
    obtain ⟨_, _, _, ws, hw, rw'⟩ := rp.ow _ _ e
    obtain ⟨w, hw2, rw2⟩ := Paired.at rw' hy
    cases r
    have hlt : i < ws.length := by
      rw [Paired.len rw']
      exact (List.getElem?_eq_some_iff.mp hy).1
    exact ⟨l, ws, i, i, w, rfl, rfl, hw, by omega, by omega, seq_nat hlt, hw2, lf _ _ _ _ _ (Same.refl _) (rp.setO e (Paired.erase i rw')) rw2 h⟩⟩
end L2

namespace L2
open PySem PySem.Spec PyProof.Rows
section
variable {X : Cx} {pins : List (Addr × Obj)} {σ : St} {H : Hp} {s : Shared}
end
end L2

namespace L2
open PySem PySem.Spec PyProof.Rows PySem.Calls
section
variable {prog : Program} {w : World} {A : Around} {E : Value → Shared → Prop} {s : Shared} {K : PySem.W.Frag} {x D : Addr} {ox : Obj} {odo : Option Obj} {name : Str}
end
def dIsiX (cs : List Str) (ps : List (Str × Sum String Str × Bool)) (t : Sum String Str) (de : DE) : DE := fun δ μ Q => de δ μ fun x μ1 => ∃ c fs b, x = .ex c fs ∧ c ∈ cs ∧ (c, t, b) ∈ ps ∧ Q (.d (.bool b)) μ1
def dGo (j : Nat) (D : DEnds) : DEnds := { nx := fun δ μ => D.nx (δ.set j none) μ, rt := D.rt, bk := fun δ μ => D.bk (δ.set j none) μ, ct := fun δ μ => D.ct (δ.set j none) μ }
def dTrySetAs (dp : DSpX) (c : Str) (da : DA) (i j : Nat) (ds : DS) : DS := fun DD δ μ => da δ μ fun xs μ1 => dp xs μ1 (fun y μ2 => DD.nx (δ.set i (some y)) μ2) fun c2 fs μ2 => c2 = c ∧ ds (dGo j DD) (δ.set j (some (.ex c fs))) μ2
end L2

namespace L2
open PySem PySem.Spec PyProof.Rows PySem.Calls
structure XHc (K : PySem.W.Frag) (C : Addr) : Prop where
  c : PySem.W.isClsIn K C = true
  t : PySem.W.typeIn K (.ref C) = some (.type "type")
  b : PySem.W.mroIn K C (.type "BaseException") = some true
section
variable {M : Model} {A : Around} {E : Value → Shared → Prop} {s : Shared} {K : PySem.W.Frag} {e C D p : Addr} {oe : Obj}
end
theorem FlD.keeps {base : Heap} {l : List Env} {e : Addr} {cls : Value} {dx : Option Addr} {h h' : Heap} (f : FlD base l e cls dx h) (k : ∀ b o, h.get? b = some o → h'.get? b = some o) : FlD base l e cls dx h' := by
  obtain ⟨f1, f2, f3, oe, vs, T, oT, ts, he, hc, hd, h1, hnT, hTe, hT, hdT, h3⟩ := f
  exact ⟨fun b o q => k b o (f1 b o q), f2, f3.of_keeps fun b o hb _ => ⟨o, k b o hb, rfl⟩, oe, vs, T, oT, ts, k _ _ he, hc, hd, h1, hnT, hTe, k _ _ hT, hdT, h3⟩
structure HdT where
  cs : List Addr
  j : Option Nat
  ts : TS
inductive PNames (X : Cx) : List Expr → List Addr → Prop
  | nil : PNames X [] []
  | cons {x : Str} {C : Addr} {p : Pos} {es : List Expr} {cs : List Addr} : XHd X.K X.mg x C → Gl X x → (x == ("__debug__" : Str)) = false → PNames X es cs → PNames X (.Name x p :: es) (C :: cs)
/-- what stands behind except -/
inductive PHd (X : Cx) : Expr → List Addr → Prop
  | one {x : Str} {C : Addr} {p : Pos} : XHd X.K X.mg x C → Gl X x → (x == ("__debug__" : Str)) = false → PHd X (.Name x p) [C]
  | tup {es : List Expr} {cs : List Addr} {c : Nat} {p : Pos} : PNames X es cs → cs.length ≤ 1000 → PHd X (.Tuple es c p) cs
theorem PNames.hc {X : Cx} {es : List Expr} {cs : List Addr} (h : PNames X es cs) : ∀ C ∈ cs, XHc X.K C := by
  induction h with
  | nil => exact fun C z => by cases z
  | cons hx _ _ _ ih =>
    intro C hC
    rcases List.mem_cons.mp hC with rfl | hC
    · exact ⟨hx.c, hx.t, hx.b⟩
    · exact ih C hC
theorem PHd.hc {X : Cx} {t : Expr} {cs : List Addr} (h : PHd X t cs) : ∀ C ∈ cs, XHc X.K C := by
  cases h with
  | one hx _ _ => exact fun C z => by rcases List.mem_cons.mp z with rfl | z; exact ⟨hx.c, hx.t, hx.b⟩; cases z
  | tup h _ => exact h.hc
theorem PNames.inExc {X : Cx} {es : List Expr} {cs : List Addr} (h : PNames X es cs) (a : Addr) : PNames (X.inExc a) es cs := by
  induction h with
  | nil => exact .nil
  | cons h1 h2 h3 _ ih => exact .cons h1 h2 h3 ih
inductive Hnd (X : Cx) : List ExceptHandler → List HdT → Prop
  | nil : Hnd X [] []
  | cons {t : Expr} {cs : List Addr} {b₀ : Stmt} {suite : List Stmt} {hp : Pos} {ts : TS} {hs : List ExceptHandler} {hds : List HdT} : PHd X t cs → (∀ e, PSs (X.inExc e) (b₀ :: suite) ts) → Hnd X hs hds → Hnd X (.ExceptHandler (some t) none (b₀ :: suite) hp :: hs) (⟨cs, none, ts⟩ :: hds)
  | consAs {t : Expr} {cs : List Addr} {y : Str} {j : Nat} {b₀ : Stmt} {suite : List Stmt} {hp : Pos} {ts : TS} {hs : List ExceptHandler} {hds : List HdT} : PHd X t cs → X.N[j]? = some y → X.env.kindOf y = some .local → (∀ e, PSs (X.inExc e) (b₀ :: suite) ts) → Hnd X hs hds →
    Hnd X (.ExceptHandler (some t) (some y) (b₀ :: suite) hp :: hs) (⟨cs, some j, ts⟩ :: hds)
section
variable {X : Cx} {pins : List (Addr × Obj)} {σ : St} {H : Hp} {s : Shared}
end
end L2

namespace L2
open PySem PySem.Spec PyProof.Rows PySem.Calls
structure XAt (K : PySem.W.Frag) (C : Addr) (f : Str) : Prop extends XGet K C where
  hd : PySem.W.hasDictIn K C = true
  na : PySem.W.findIn K (.ref C) f = some none
def dAtX (cs : List Str) (ri : List (Str × Str)) (f : Str) (de : DE) : DE := fun δ μ Q => de δ μ fun x μ1 => ∃ c fs n, x = .ex c fs ∧ c ∈ cs ∧ (c, f) ∈ ri ∧ fs.lookup f = some n ∧ Q (.d (.int n)) μ1
def isiTD (ps : List (Str × Sum String Str × Bool)) (c : Str) : List (Sum String Str) → Option Bool
  | [] => some false
  | t :: r => match ps.find? (fun q => q.1 == c && decide (q.2.1 = t)) with
    | some (_, _, true) => some true
    | some (_, _, false) => isiTD ps c r
    | none => none
def dIsiXT (cs : List Str) (ps : List (Str × Sum String Str × Bool)) (ts : List (Sum String Str)) (de : DE) : DE := fun δ μ Q => de δ μ fun x μ1 => ts.length ≤ 1000 ∧ ∃ c fs b, x = .ex c fs ∧ c ∈ cs ∧ isiTD ps c ts = some b ∧ Q (.d (.bool b)) μ1
structure HdlD where
  cs : List Str
  j : Option Nat
  ds : DS
def hitD (mt : List (Str × Str × Bool)) (c : Str) : List Str → Option Bool
  | [] => some false
  | h :: r => match mt.find? (fun q => q.1 == c && q.2.1 == h) with
    | some (_, _, true) => some true
    | some (_, _, false) => hitD mt c r
    | none => none
def dHand (mt : List (Str × Str × Bool)) (c : Str) (fs : List (Str × Int)) : List HdlD → DS
  | [], _, _, _ => False
  | hd :: r, D, δ, μ => ∃ b, hitD mt c hd.cs = some b ∧ if b = true then (match hd.j with
      | none => hd.ds D δ μ
      | some j => hd.ds (dGo j D) (δ.set j (some (.ex c fs))) μ) else dHand mt c fs r D δ μ
def dTryH (cs : List Str) (mt : List (Str × Str × Bool)) (db : DX → DS) (hs : List HdlD) : DS := fun DD δ μ => db (fun c fs μ2 => c ∈ cs ∧ dHand mt c fs hs DD δ μ2) DD δ μ
inductive HH (K : PySem.W.Frag) (cm : Str → Addr) : List HdT → List HdlD → Prop
  | nil : HH K cm [] []
  | cons {cs : List Str} {j : Option Nat} {ts : TS} {ds : DS} {ht : List HdT} {hd : List HdlD} : SS K ts ds → HH K cm ht hd → HH K cm (⟨cs.map cm, j, ts⟩ :: ht) (⟨cs, j, ds⟩ :: hd)
end L2

namespace L2
open PySem PySem.Spec PyProof.Rows PySem.Calls
section
variable {X : Cx}
theorem PI.nox {tg iter : Expr} {wi : TI} (h : PI X.nox tg iter wi) : PI X tg iter wi := fun pins s σ H R I hw =>
  wpAny_mono (h pins s σ H R (I.wish _) hw) (fun v s1 h1 => wpAny_mono h1 (fun itv s2 ⟨it, fp, tn, J, H', e, I', T, t0, f, r⟩ => ⟨it, fp, tn, J, H', e, I'.unwish, T, t0, f, r⟩) fun _ _ z => False.elim z) fun _ _ z => False.elim z
theorem PG.nox {tg : Expr} {t : TG} (h : PG X.nox tg t) : PG X tg t := fun pins s σ H v u Q I r hw =>
  wpAny_mono (h pins s σ H v u Q (I.wish _) r hw) (fun _ s1 ⟨σ', H', I', q⟩ => ⟨σ', H', I'.unwish, q⟩) fun _ _ z => False.elim z
end
end L2

namespace L2
open PySem PySem.Spec PyProof.Rows
theorem Paired.ins {α β : Type} {P : α → β → Prop} {a : α} {b : β} (h : P a b) : ∀ (n : Nat) {xs : List α} {ys : List β}, Paired P xs ys → Paired P (xs.take n ++ a :: xs.drop n) (ys.take n ++ b :: ys.drop n)
  | 0, _, _, r => .cons h r
  | n + 1, _, _, .nil => .cons h .nil
  | n + 1, _, _, .cons x r => .cons x (Paired.ins h n r)
def dInsert : DV → List DV → Mu → DQ → Prop := fun x vs μ Q => ∃ l xs, ∃ i : Nat, ∃ y, x = .r l ∧ vs = [.d (.int i), y] ∧ μ.o l = some (.own xs) ∧ i ≤ xs.length ∧ xs.length < sizeLine ∧ Q (.d .none) (μ.put l (.own (xs.take i ++ y :: xs.drop i)))
end L2

namespace L2
open PySem PySem.Spec PyProof.Rows PySem.Calls Builtin.Str
section
variable {X : Cx} {o e : Expr} {to te : TE}
end
def dIdxS (o e : DE) : DE := fun δ μ Q => o δ μ fun x μ1 => (∃ a, x = .d (.str a)) ∧ e δ μ1 fun y μ2 => ∃ a b, ∃ i : Nat, ∃ r, x = .d (.str a) ∧ y = .d (.str b) ∧ occurrences a b 0 a.length 1 = i :: r ∧ Q (.d (.int i)) μ2
end L2
namespace L2
open PySem PySem.Spec PyProof.Rows PySem.Calls Builtin.Str
def revS (z : Str) : Str := ⟨z.cps.toList.reverse.toArray⟩
def dSl3S (a : DE) (l h s : DO) : DE := fun δ μ Q => a δ μ fun x μ1 => l δ μ1 fun lo μ2 => h δ μ2 fun hi μ3 => s δ μ3 fun st μ4 => ∃ z, x = .d (.str z) ∧ lo = none ∧ hi = none ∧ st = some (-1) ∧ z.length ≤ 2 ∧ Q (.d (.str (revS z))) μ4
inductive PIw (X : Cx) (tg e : Expr) (t : TI) : Prop
  | mk : PI X tg e t → PIw X tg e t
end L2

namespace L2
open PySem PySem.Spec PyProof.Rows
def dOpq (de : DE) : DE := fun δ μ Q => ∀ l, μ.o l = none → de δ (μ.put l (.dc (.dK []))) fun _ μ1 => μ1.o l = some (.dc (.dK [])) ∧ ∀ o, Q (.r l) (μ1.put l (.dc (.dK o)))
def jTupA (da : DA) : DI := fun δ μ R => da δ μ fun xs μ1 => xs.length ≤ sizeLine ∧ R xs μ1
end L2

namespace LQ
open PySem PyProof PyProof.Rows
section
variable {M : Model} {Γ : Ctx} {s s' : Shared} {R : SortSt → SortSt → Prop} {α α' β β' : Type}
/-- what the second program does, the first does too (over related states, at heaps of their own) -/
@[irreducible] def Sm (M : Model) (Γ : Ctx) (s s' : Shared) (R : SortSt → SortSt → Prop) (r : α → α' → Prop) (m : StateT SortSt Sem α) (m' : StateT SortSt Sem α') : Prop :=
  ∀ st st' p p' (Q' : α' × SortSt → Pos → Shared → Prop), R st st' → Sem.wp M Γ (m'.run st') Q' (fun _ _ _ => False) p' s' →
    Sem.wp M Γ (m.run st) (fun x _ s1 => s1 = s ∧ ∃ x' p1, R x.2 x'.2 ∧ r x.1 x'.1 ∧ Q' x' p1 s') (fun _ _ _ => False) p s
theorem Sm.intro {r : α → α' → Prop} {m : StateT SortSt Sem α} {m' : StateT SortSt Sem α'} (h : ∀ st st' p p' (Q' : α' × SortSt → Pos → Shared → Prop), R st st' → Sem.wp M Γ (m'.run st') Q' (fun _ _ _ => False) p' s' →
    Sem.wp M Γ (m.run st) (fun x _ s1 => s1 = s ∧ ∃ x' p1, R x.2 x'.2 ∧ r x.1 x'.1 ∧ Q' x' p1 s') (fun _ _ _ => False) p s) : Sm M Γ s s' R r m m' := by unfold Sm; exact h
theorem Sm.use {r : α → α' → Prop} {m : StateT SortSt Sem α} {m' : StateT SortSt Sem α'} (h : Sm M Γ s s' R r m m') : ∀ st st' p p' (Q' : α' × SortSt → Pos → Shared → Prop), R st st' → Sem.wp M Γ (m'.run st') Q' (fun _ _ _ => False) p' s' →
    Sem.wp M Γ (m.run st) (fun x _ s1 => s1 = s ∧ ∃ x' p1, R x.2 x'.2 ∧ r x.1 x'.1 ∧ Q' x' p1 s') (fun _ _ _ => False) p s := by unfold Sm at h; exact h
theorem Sm.pure {r : α → α' → Prop} {a : α} {a' : α'} (h : r a a') : Sm M Γ s s' R r (Pure.pure a) (Pure.pure a') :=
  Sm.intro fun st st' p p' Q' hR hw => ⟨rfl, (a', st'), p', hR, h, hw⟩
theorem Sm.bind {r : α → α' → Prop} {r2 : β → β' → Prop} {m : StateT SortSt Sem α} {m' : StateT SortSt Sem α'} {f : α → StateT SortSt Sem β} {f' : α' → StateT SortSt Sem β'} (h1 : Sm M Γ s s' R r m m') (h2 : ∀ a a', r a a' → Sm M Γ s s' R r2 (f a) (f' a')) : Sm M Γ s s' R r2 (m >>= f) (m' >>= f') := by
  refine Sm.intro fun st st' p p' Q' hR hw => ?_
  rw [StateT.run_bind, Sem.wp_bind'] at hw ⊢
  have := h1.use st st' p p' _ hR hw
  refine Sem.wp_mono M Γ _ (fun x p1 s1 h => ?_) (fun _ _ _ h => h) p s this
  obtain ⟨rfl, x', p2, hR2, hr, hw2⟩ := h
  exact (h2 _ _ hr).use _ _ _ _ _ hR2 hw2
theorem Sm.ite {r : α → α' → Prop} {c c' : Prop} [Decidable c] [Decidable c'] (hc : c ↔ c') {m n : StateT SortSt Sem α} {m' n' : StateT SortSt Sem α'} (h1 : c → Sm M Γ s s' R r m m') (h2 : ¬ c → Sm M Γ s s' R r n n') : Sm M Γ s s' R r (if c then m else n) (if c' then m' else n') := by
  by_cases h : c
  · rw [if_pos h, if_pos (hc.mp h)]; exact h1 h
  · rw [if_neg h, if_neg fun z => h (hc.mpr z)]; exact h2 h
theorem Sm.forInL {γ : Type} {r : β → β' → Prop} (f : γ → β → StateT SortSt Sem (ForInStep β)) (f' : γ → β' → StateT SortSt Sem (ForInStep β')) (h : ∀ i b b', r b b' → Sm M Γ s s' R (fun x x' => match x, x' with
    | .done y, .done y' => r y y'
    | .yield y, .yield y' => r y y'
    | _, _ => False) (f i b) (f' i b')) : ∀ (l : List γ) (b : β) (b' : β'), r b b' → Sm M Γ s s' R r (forIn l b f) (forIn l b' f')
  | [], b, b', hb => by rw [List.forIn_nil, List.forIn_nil]; exact Sm.pure hb
  | i :: l, b, b', hb => by
    rw [List.forIn_cons, List.forIn_cons]
    refine Sm.bind (h i b b' hb) fun x x' hx => ?_
    cases x with
    | done y => cases x' with
      | done y' => exact Sm.pure hx
      | yield y' => exact hx.elim
    | yield y => cases x' with
      | done y' => exact hx.elim
      | yield y' => exact Sm.forInL f f' h l y y' hx
theorem Sm.forIn {r : β → β' → Prop} {a b : Nat} {c : β} {c' : β'} {f : Nat → β → StateT SortSt Sem (ForInStep β)} {f' : Nat → β' → StateT SortSt Sem (ForInStep β')} (hb : r c c') (h : ∀ i b b', r b b' → Sm M Γ s s' R (fun x x' => match x, x' with
    | .done y, .done y' => r y y'
    | .yield y, .yield y' => r y y'
    | _, _ => False) (f i b) (f' i b')) : Sm M Γ s s' R r (ForIn.forIn ([a:b] : Std.Legacy.Range) c f) (ForIn.forIn ([a:b] : Std.Legacy.Range) c' f') := by
  rw [Std.Legacy.Range.forIn_eq_forIn_range', Std.Legacy.Range.forIn_eq_forIn_range']
  exact Sm.forInL f f' h _ c c' hb
end
end LQ

namespace LQ
open PySem PyProof PyProof.Rows
section
variable {M : Model} {Γ : Ctx} {s s' : Shared} {R : SortSt → SortSt → Prop} {α α' β β' : Type}
theorem Sm.get : Sm M Γ s s' R R (MonadState.get : StateT SortSt Sem SortSt) (MonadState.get : StateT SortSt Sem SortSt) :=
  Sm.intro fun st st' p p' Q' hR hw => ⟨rfl, (st', st'), p', hR, hR, hw⟩
theorem Sm.modify {f f' : SortSt → SortSt} (h : ∀ st st', R st st' → R (f st) (f' st')) : Sm M Γ s s' R (fun _ _ => True) (_root_.modify f : StateT SortSt Sem PUnit) (_root_.modify f' : StateT SortSt Sem PUnit) :=
  Sm.intro fun st st' p p' Q' hR hw => ⟨rfl, ((), f' st'), p', h _ _ hR, trivial, hw⟩
theorem Sm.set {a a' : SortSt} (h : R a a') : Sm M Γ s s' R (fun _ _ => True) (MonadStateOf.set a : StateT SortSt Sem PUnit) (MonadStateOf.set a' : StateT SortSt Sem PUnit) :=
  Sm.intro fun st st' p p' Q' hR hw => ⟨rfl, ((), a'), p', h, trivial, hw⟩
theorem Sm.lift {r : α → α' → Prop} {t : Sem α} {t' : Sem α'} (h : ∀ p p' (Q' : α' → Pos → Shared → Prop), Sem.wp M Γ t' Q' (fun _ _ _ => False) p' s' → Sem.wp M Γ t (fun a _ s1 => s1 = s ∧ ∃ a' p1, r a a' ∧ Q' a' p1 s') (fun _ _ _ => False) p s) : Sm M Γ s s' R r (liftM t : StateT SortSt Sem α) (liftM t' : StateT SortSt Sem α') := by
  refine Sm.intro fun st st' p p' Q' hR hw => ?_
  have e : ∀ {γ : Type} (u : Sem γ) (x : SortSt), (liftM u : StateT SortSt Sem γ).run x = u >>= fun a => Pure.pure (a, x) := fun u x => rfl
  rw [e, Sem.wp_bind'] at hw ⊢
  refine Sem.wp_mono M Γ _ (fun a p1 s1 h1 => ?_) (fun _ _ _ h => h) p s (h p p' _ hw)
  obtain ⟨rfl, a', p2, hr, hq⟩ := h1
  exact ⟨rfl, (a', st'), p2, hR, hr, hq⟩
theorem Sm.rule {t : String} : Sm M Γ s s' R (fun _ _ => True) (liftM (PySem.rule t) : StateT SortSt Sem Unit) (liftM (PySem.rule t) : StateT SortSt Sem Unit) :=
  Sm.lift fun p p' Q' hw => ⟨rfl, (), p', trivial, hw⟩
theorem Sm.unsup {r : α → α' → Prop} {t : String} {m : StateT SortSt Sem α} : Sm M Γ s s' R r m (liftM (PySem.unsupported t : Sem α') : StateT SortSt Sem α') := by
  refine Sm.intro fun st st' p p' Q' hR hw => ?_
  exact hw.elim
end
/-- keys that are compared alike -/
structure RKey (M : Model) (Γ : Ctx) (s s' : Shared) (kd kd' : SortKind) (RK : Keyed → Keyed → Prop) : Prop where
  lt : ∀ {x y x' y' : Keyed}, RK x x' → RK y y' → ∀ p p' (Q' : Bool → Pos → Shared → Prop) (E' : Value → Pos → Shared → Prop), Sem.wp M Γ (keyLt' kd' x'.1 y'.1) Q' E' p' s' → Sem.wp M Γ (keyLt' kd x.1 y.1) (fun b _ s1 => s1 = s ∧ ∃ p1, Q' b p1 s') (fun _ _ _ => False) p s
structure RA (RK : Keyed → Keyed → Prop) (a a' : Array Keyed) : Prop where
  sz : a.size = a'.size
  el : ∀ (i : Nat) (x x' : Keyed), a[i]? = some x → a'[i]? = some x' → RK x x'
structure RS (kd kd' : SortKind) (RK : Keyed → Keyed → Prop) (st st' : SortSt) : Prop where
  k : kindOf st = kd
  k' : kindOf st' = kd'
  a : RA RK (arrOf st) (arrOf st')
  p : pendingOf st = pendingOf st'
  g : gallopOf st = gallopOf st'
  f : failedOf st = none
  f' : failedOf st' = none
section
variable {M : Model} {Γ : Ctx} {s s' : Shared} {kd kd' : SortKind} {RK : Keyed → Keyed → Prop} {α α' β β' : Type}
theorem Sm.lt (hk : RKey M Γ s s' kd kd' RK) {x y x' y' : Keyed} (hx : RK x x') (hy : RK y y') : Sm M Γ s s' (RS kd kd' RK) (fun b b' => b = b' ∧ b.isSome = true) (lt' x y) (lt' x' y') := by
  refine Sm.intro fun st st' p p' Q' hR hw => ?_
  have e : ∀ (z w : Keyed) (x : SortSt), (lt' z w).run x = (keyLt' (kindOf x) z.1 w.1).attempt >>= fun r => (match r with
    | .ok b => Pure.pure (some b, x)
    | .error e => Pure.pure (none, SortSt.mk' (kindOf x) (arrOf x) (pendingOf x) (gallopOf x) (some e)) : Sem (Option Bool × SortSt)) := by
    intro z w x
    rw [lt'_eq]
    show ((keyLt' (kindOf x) z.1 w.1).attempt >>= fun a => Pure.pure (a, x)) >>= _ = _
    rw [bind_assoc]
    congr 1
    funext r
    cases r <;> rfl
  rw [e] at hw ⊢
  rw [hR.k'] at hw
  rw [hR.k]
  rw [Sem.wp_bind', Sem.wp_attempt] at hw ⊢
  refine Sem.wp_mono M Γ _ (fun b p1 s1 h1 => ?_) (fun _ _ _ h => h.elim) p s (hk.lt hx hy p p' _ _ hw)
  obtain ⟨rfl, p2, hq⟩ := h1
  exact ⟨rfl, (some b, st'), p2, hR, ⟨rfl, rfl⟩, hq⟩
theorem Sm.elem {R : SortSt → SortSt → Prop} {a a' : Array Keyed} (h : RA RK a a') {i : Nat} : Sm M Γ s s' R RK (elem' a i) (elem' a' i) := by
  rw [elem'_eq, elem'_eq]
  cases e : a'[i]? with
  | none => exact Sm.unsup
  | some x' =>
    have hi : i < a.size := by
      have := (Array.getElem?_eq_some_iff.mp e).1
      rw [h.1]; exact this
    rw [Array.getElem?_eq_getElem hi]
    exact Sm.pure (h.2 i _ _ (Array.getElem?_eq_getElem hi) e)
theorem Sm.ltAt (hk : RKey M Γ s s' kd kd' RK) {i j : Nat} : Sm M Γ s s' (RS kd kd' RK) (fun b b' => b = b' ∧ b.isSome = true) (ltAt' i j) (ltAt' i j) := by
  rw [ltAt'_eq]
  exact Sm.bind Sm.get fun a a' h => Sm.bind (Sm.elem h.a) fun x x' hx => Sm.bind (Sm.elem h.a) fun y y' hy => Sm.lt hk hx hy
end
end LQ

namespace LQ
open PySem PyProof PyProof.Rows
section
variable {M : Model} {Γ : Ctx} {s s' : Shared} {kd kd' : SortKind} {RK : Keyed → Keyed → Prop} {α α' β β' : Type}
theorem RA.swap {a a' : Array Keyed} (h : RA RK a a') (i j : Nat) : RA RK (a.swapIfInBounds i j) (a'.swapIfInBounds i j) := by
  obtain ⟨hs, h⟩ := h
  unfold Array.swapIfInBounds
  by_cases h1 : i < a.size
  · by_cases h2 : j < a.size
    · rw [dif_pos h1, dif_pos h2, dif_pos (hs ▸ h1), dif_pos (hs ▸ h2)]
      refine ⟨by rw [Array.size_swap, Array.size_swap]; exact hs, fun k x x' e e' => ?_⟩
      have g : ∀ m (hm : m < a.size), RK a[m] (a'[m]'(hs ▸ hm)) := fun m hm => h m _ _ (Array.getElem?_eq_getElem hm) (Array.getElem?_eq_getElem (hs ▸ hm))
      have hk : k < a.size := by have := (Array.getElem?_eq_some_iff.mp e).1; rwa [Array.size_swap] at this
      rw [Array.getElem?_eq_getElem (by rw [Array.size_swap]; exact hk)] at e
      rw [Array.getElem?_eq_getElem (by rw [Array.size_swap]; exact hs ▸ hk)] at e'
      rw [Array.getElem_swap] at e e'
      cases e; cases e'
      split
      · exact g j h2
      · split
        · exact g i h1
        · exact g k hk
    · rw [dif_pos h1, dif_neg h2, dif_pos (hs ▸ h1), dif_neg (hs ▸ h2)]; exact ⟨hs, h⟩
  · rw [dif_neg h1, dif_neg (hs ▸ h1)]; exact ⟨hs, h⟩
theorem RA.swaps {f g : Nat → Nat} : ∀ (l : List Nat) {a a' : Array Keyed}, RA RK a a' → RA RK (l.foldl (fun a k => a.swapIfInBounds (f k) (g k)) a) (l.foldl (fun a k => a.swapIfInBounds (f k) (g k)) a')
  | [], _, _, h => h
  | k :: l, _, _, h => by rw [List.foldl_cons, List.foldl_cons]; exact RA.swaps l (h.swap _ _)
theorem RS.setArr {st st' : SortSt} (h : RS kd kd' RK st st') {a a' : Array Keyed} (ha : RA RK a a') : RS kd kd' RK (setArr st a) (setArr st' a') := ⟨h.k, h.k', ha, h.p, h.g, h.f, h.f'⟩
theorem Sm.reverse {i j : Nat} : Sm M Γ s s' (RS kd kd' RK) (fun _ _ => True) (reverseSlice' i j) (reverseSlice' i j) := by
  rw [reverseSlice'_eq]
  exact Sm.modify fun st st' h => h.setArr (RA.swaps (f := fun k => i + k) (g := fun k => j - 1 - k) _ h.a)
theorem Sm.moveDown {i j : Nat} : Sm M Γ s s' (RS kd kd' RK) (fun _ _ => True) (moveDown' i j) (moveDown' i j) := by
  rw [moveDown'_eq]
  exact Sm.modify fun st st' h => h.setArr (RA.swaps (f := fun k => i - k) (g := fun k => i - k - 1) _ h.a)
local macro_rules | `(tactic| walk_at "sm1") => `(tactic| first
  | exact Sm.pure rfl
  | (refine Sm.ite Iff.rfl (fun _ => ?_) (fun _ => ?_))
  | (refine Sm.bind (Sm.ltAt (by assumption)) ?_; intro b b' hb; obtain ⟨e, hb⟩ := hb; cases e; obtain ⟨c, e⟩ := Option.isSome_iff_exists.mp hb; clear hb; cases e; try dsimp only)
  | (refine Sm.bind Sm.reverse ?_; intro _ _ _; try dsimp only)
  | (refine Sm.bind Sm.moveDown ?_; intro _ _ _; try dsimp only)
  | (refine Sm.bind Sm.rule ?_; intro _ _ _; try dsimp only)
  | (refine Sm.bind (Sm.forIn (r := Eq) rfl ?_) ?_)
  | (intro i b b' h; cases h; try dsimp only)
  | (intro b b' h; cases h; obtain ⟨r, b⟩ := b; cases r <;> try dsimp only))
theorem Sm.countRun (hk : RKey M Γ s s' kd kd' RK) {lo n : Nat} : Sm M Γ s s' (RS kd kd' RK) Eq (countRun' lo n) (countRun' lo n) := by
  rw [countRun'_eq]
  dsimp only
  repeat' walk_at "sm1"
theorem Sm.binarySort (hk : RKey M Γ s s' kd kd' RK) {lo n ok : Nat} : Sm M Γ s s' (RS kd kd' RK) Eq (binarySort' lo n ok) (binarySort' lo n ok) := by
  rw [binarySort'_eq]
  dsimp only
  repeat' walk_at "sm1"
end
end LQ

namespace LQ
open PySem PyProof PyProof.Rows
section
variable {M : Model} {Γ : Ctx} {s s' : Shared} {kd kd' : SortKind} {RK : Keyed → Keyed → Prop} {α α' β β' : Type}
theorem RA.extract {a a' : Array Keyed} (h : RA RK a a') (i j : Nat) : RA RK (a.extract i j) (a'.extract i j) := by
  refine ⟨by rw [Array.size_extract, Array.size_extract, h.1], fun k x x' e e' => ?_⟩
  rw [Array.getElem?_extract] at e e'
  split at e
  · split at e'
    · exact h.2 _ _ _ e e'
    · cases e'
  · cases e
theorem RA.append {a a' b b' : Array Keyed} (h : RA RK a a') (g : RA RK b b') : RA RK (a ++ b) (a' ++ b') := by
  refine ⟨by rw [Array.size_append, Array.size_append, h.1, g.1], fun k x x' e e' => ?_⟩
  rw [Array.getElem?_append] at e e'
  rw [h.1] at e
  split at e
  · rename_i hk
    rw [if_pos hk] at e'
    exact h.2 _ _ _ e e'
  · rename_i hk
    rw [if_neg hk] at e'
    exact g.2 _ _ _ e e'
theorem RA.single {x x' : Keyed} (h : RK x x') : RA RK #[x] #[x'] := by
  refine ⟨rfl, fun k y y' e e' => ?_⟩
  cases k with
  | zero => cases e; cases e'; exact h
  | succ k => simp at e
theorem RA.push {a a' : Array Keyed} (h : RA RK a a') {x x' : Keyed} (hx : RK x x') : RA RK (a.push x) (a'.push x') := by
  rw [Array.push_eq_append, Array.push_eq_append]; exact h.append (RA.single hx)
theorem RA.reverse {a a' : Array Keyed} (h : RA RK a a') : RA RK a.reverse a'.reverse := by
  refine ⟨by rw [Array.size_reverse, Array.size_reverse, h.1], fun k x x' e e' => ?_⟩
  have hk : k < a.size := by have := (Array.getElem?_eq_some_iff.mp e).1; rwa [Array.size_reverse] at this
  rw [Array.getElem?_reverse hk] at e
  rw [Array.getElem?_reverse (h.1 ▸ hk), ← h.1] at e'
  exact h.2 _ _ _ e e'
theorem RA.set {a a' : Array Keyed} (h : RA RK a a') {i : Nat} {x x' : Keyed} (hx : RK x x') : RA RK (a.setIfInBounds i x) (a'.setIfInBounds i x') := by
  refine ⟨by rw [Array.size_setIfInBounds, Array.size_setIfInBounds, h.1], fun k y y' e e' => ?_⟩
  rw [Array.getElem?_setIfInBounds] at e e'
  rw [h.1] at e
  split at e
  · rename_i hk
    rw [if_pos hk] at e'
    split at e
    · rename_i hs
      rw [if_pos hs] at e'
      cases e; cases e'; exact hx
    · cases e
  · rename_i hk
    rw [if_neg hk] at e'
    exact h.2 _ _ _ e e'
theorem Sm.beyond (hk : RKey M Γ s s' kd kd' RK) {left : Bool} {key key' : Keyed} (hx : RK key key') {arr arr' : Array Keyed} (ha : RA RK arr arr') {base i : Nat} : Sm M Γ s s' (RS kd kd' RK) (fun b b' => b = b' ∧ b.isSome = true) (beyond' left key arr base i) (beyond' left key' arr' base i) := by
  unfold beyond'
  refine Sm.bind (Sm.elem ha) fun x x' h => ?_
  refine Sm.ite Iff.rfl (fun _ => Sm.lt hk h hx) (fun _ => Sm.bind (Sm.lt hk hx h) fun b b' hb => ?_)
  obtain ⟨rfl, hb⟩ := hb
  exact Sm.pure ⟨rfl, by rw [Option.isSome_map]; exact hb⟩
local macro_rules | `(tactic| walk_at "sm2") => `(tactic| first
  | exact Sm.pure rfl
  | (refine Sm.ite Iff.rfl (fun _ => ?_) (fun _ => ?_))
  | (refine Sm.bind (Sm.beyond (by assumption) (by assumption) (by assumption)) ?_; intro b b' hb; obtain ⟨e, hb⟩ := hb; cases e; obtain ⟨c, e⟩ := Option.isSome_iff_exists.mp hb; clear hb; cases e; try dsimp only)
  | (refine Sm.bind (Sm.forIn (r := Eq) rfl ?_) ?_)
  | (intro i b b' h; cases h; try dsimp only)
  | (intro b b' h; cases h; obtain ⟨r, b⟩ := b; cases r <;> try dsimp only))
theorem Sm.gallop (hk : RKey M Γ s s' kd kd' RK) {left : Bool} {key key' : Keyed} (hx : RK key key') {arr arr' : Array Keyed} (ha : RA RK arr arr') {base n hint : Nat} : Sm M Γ s s' (RS kd kd' RK) (fun b b' => b = b') (gallop' left key arr base n hint) (gallop' left key' arr' base n hint) := by
  rw [gallop'_eq, gallop'_eq]
  dsimp only
  repeat' walk_at "sm2"
end
end LQ

namespace LQ
open PySem PyProof PyProof.Rows
section
variable {M : Model} {Γ : Ctx} {s s' : Shared} {kd kd' : SortKind} {RK : Keyed → Keyed → Prop} {α α' β β' : Type}
inductive OA (RK : Keyed → Keyed → Prop) : Option (Array Keyed) → Option (Array Keyed) → Prop
  | no : OA RK none none
  | yes {a a' : Array Keyed} : RA RK a a' → OA RK (some a) (some a')
/-- states of the merges' loops -/
inductive LA {ρ : Type} (RK : Keyed → Keyed → Prop) : Option (Array Keyed) × Array Keyed × ρ → Option (Array Keyed) × Array Keyed × ρ → Prop
  | mk {r r' : Option (Array Keyed)} {o o' : Array Keyed} {n : ρ} : OA RK r r' → RA RK o o' → LA RK (r, o, n) (r', o', n)
inductive LB {ρ : Type} (RK : Keyed → Keyed → Prop) : Option (Array Keyed) × Nat × Nat × Array Keyed × ρ → Option (Array Keyed) × Nat × Nat × Array Keyed × ρ → Prop
  | mk {r r' : Option (Array Keyed)} {o o' : Array Keyed} {x y : Nat} {n : ρ} : OA RK r r' → RA RK o o' → LB RK (r, x, y, o, n) (r', x, y, o', n)
theorem Sm.setMin {g : Nat} : Sm M Γ s s' (RS kd kd' RK) (fun _ _ => True) (setMinGallop' g) (setMinGallop' g) := by
  rw [setMinGallop'_eq]
  exact Sm.modify fun st st' h => ⟨h.k, h.k', h.a, h.p, rfl, h.f, h.f'⟩
theorem RS.gEq {st st' : SortSt} (h : RS kd kd' RK st st') : ∃ g, gallopOf st = g ∧ gallopOf st' = g := ⟨_, rfl, h.g.symm⟩
local macro_rules | `(tactic| walk_at "ra") => `(tactic| repeat' first | assumption | exact OA.no | apply OA.yes | apply RA.append | apply RA.push | apply RA.extract | apply RA.single | apply RA.reverse)
local macro_rules | `(tactic| walk_at "sm3") => `(tactic| first
  | exact Sm.unsup
  | (with_reducible refine Sm.pure ?_; refine LA.mk ?_ ?_ <;> (walk_at "ra"; done))
  | (with_reducible refine Sm.pure ?_; (walk_at "ra"; done))
  | (refine Sm.ite Iff.rfl (fun _ => ?_) (fun _ => ?_))
  | (refine Sm.bind (Sm.elem (by assumption)) ?_; intro b b' hb)
  | (refine Sm.bind (Sm.lt (by assumption) (by assumption) (by assumption)) ?_; intro b b' hb; obtain ⟨e, hb⟩ := hb; cases e; obtain ⟨c, e⟩ := Option.isSome_iff_exists.mp hb; clear hb; cases e; try dsimp only)
  | (refine Sm.bind (Sm.gallop (by assumption) (by assumption) (by assumption)) ?_; intro b b' hb; cases hb; cases b <;> try dsimp only)
  | (refine Sm.bind Sm.rule ?_; intro _ _ _; try dsimp only)
  | (refine Sm.bind Sm.setMin ?_; intro _ _ _; try dsimp only)
  | (refine Sm.bind Sm.get ?_; intro b b' hb; obtain ⟨g, e1, e2⟩ := hb.gEq; rw [e1, e2]; try dsimp only)
  | (refine Sm.bind (Sm.forIn (r := LA RK) ?_ ?_) ?_)
  | (refine LA.mk ?_ ?_ <;> (walk_at "ra"; done))
  | (intro i b b' h; cases h; try dsimp only)
  | (intro b b' h; obtain ⟨h1, h2⟩ := h; cases h1 <;> try dsimp only))
set_option maxHeartbeats 4000000 in
theorem Sm.mergeLo (hk : RKey M Γ s s' kd kd' RK) {a a' b b' : Array Keyed} (ha : RA RK a a') (hb : RA RK b b') : Sm M Γ s s' (RS kd kd' RK) (RA RK) (mergeLo' a b) (mergeLo' a' b') := by
  have h1 : a'.size = a.size := ha.1.symm
  have h2 : b'.size = b.size := hb.1.symm
  rw [mergeLo'_eq, mergeLo'_eq, h1, h2]
  dsimp only
  repeat' walk_at "sm3"
local macro_rules | `(tactic| walk_at "sm4") => `(tactic| first
  | exact Sm.unsup
  | (with_reducible refine Sm.pure ?_; refine LB.mk ?_ ?_ <;> (walk_at "ra"; done))
  | (with_reducible refine Sm.pure ?_; (walk_at "ra"; done))
  | (refine Sm.ite Iff.rfl (fun _ => ?_) (fun _ => ?_))
  | (refine Sm.bind (Sm.elem (by assumption)) ?_; intro b b' hb)
  | (refine Sm.bind (Sm.lt (by assumption) (by assumption) (by assumption)) ?_; intro b b' hb; obtain ⟨e, hb⟩ := hb; cases e; obtain ⟨c, e⟩ := Option.isSome_iff_exists.mp hb; clear hb; cases e; try dsimp only)
  | (refine Sm.bind (Sm.gallop (by assumption) (by assumption) (by assumption)) ?_; intro b b' hb; cases hb; cases b <;> try dsimp only)
  | (refine Sm.bind Sm.rule ?_; intro _ _ _; try dsimp only)
  | (refine Sm.bind Sm.setMin ?_; intro _ _ _; try dsimp only)
  | (refine Sm.bind Sm.get ?_; intro b b' hb; obtain ⟨g, e1, e2⟩ := hb.gEq; rw [e1, e2]; try dsimp only)
  | (refine Sm.bind (Sm.forIn (r := LB RK) ?_ ?_) ?_)
  | (refine LB.mk ?_ ?_ <;> (walk_at "ra"; done))
  | (intro i b b' h; cases h; try dsimp only)
  | (intro b b' h; obtain ⟨h1, h2⟩ := h; cases h1 <;> try dsimp only))
set_option maxHeartbeats 4000000 in
theorem Sm.mergeHi (hk : RKey M Γ s s' kd kd' RK) {a a' b b' : Array Keyed} (ha : RA RK a a') (hb : RA RK b b') : Sm M Γ s s' (RS kd kd' RK) (RA RK) (mergeHi' a b) (mergeHi' a' b') := by
  have h1 : a'.size = a.size := ha.1.symm
  have h2 : b'.size = b.size := hb.1.symm
  rw [mergeHi'_eq, mergeHi'_eq, h1, h2]
  dsimp only
  repeat' walk_at "sm4"
end
end LQ

namespace LQ
open PySem PyProof PyProof.Rows
section
variable {M : Model} {Γ : Ctx} {s s' : Shared} {kd kd' : SortKind} {RK : Keyed → Keyed → Prop} {α α' β β' : Type}
theorem RS.pEq {st st' : SortSt} (h : RS kd kd' RK st st') : ∃ g, pendingOf st = g ∧ pendingOf st' = g := ⟨_, rfl, h.p.symm⟩
theorem RS.setPending {st st' : SortSt} (h : RS kd kd' RK st st') {p p' : Array (Nat × Nat × Nat)} (hp : p = p') : RS kd kd' RK (setPending st p) (setPending st' p') := ⟨h.k, h.k', h.a, hp, h.g, h.f, h.f'⟩
theorem RA.folds {sa : Nat} : ∀ (l l' : List (Keyed × Nat)), l.length = l'.length → (∀ (i : Nat) (x x' : Keyed × Nat), l[i]? = some x → l'[i]? = some x' → RK x.1 x'.1 ∧ x.2 = x'.2) → ∀ {a a' : Array Keyed}, RA RK a a' → RA RK (l.foldl (fun a x => a.setIfInBounds (sa + x.2) x.1) a) (l'.foldl (fun a x => a.setIfInBounds (sa + x.2) x.1) a')
  | [], [], _, _, _, _, h => h
  | [], _ :: _, hl, _, _, _, _ => by simp at hl
  | _ :: _, [], hl, _, _, _, _ => by simp at hl
  | x :: l, x' :: l', hl, hr, a, a', h => by
    rw [List.foldl_cons, List.foldl_cons]
    obtain ⟨h1, h2⟩ := hr 0 x x' rfl rfl
    refine RA.folds l l' (by simpa using hl) (fun i y y' e e' => hr (i + 1) y y' (by simpa using e) (by simpa using e')) ?_
    rw [← h2]
    exact h.set h1
theorem RA.merged {sa : Nat} {m m' a a' : Array Keyed} (hm : RA RK m m') (h : RA RK a a') : RA RK (m.toList.zipIdx.foldl (fun a x => a.setIfInBounds (sa + x.2) x.1) a) (m'.toList.zipIdx.foldl (fun a x => a.setIfInBounds (sa + x.2) x.1) a') := by
  refine RA.folds _ _ (by rw [List.length_zipIdx, List.length_zipIdx, Array.length_toList, Array.length_toList]; exact hm.1) (fun i x x' e e' => ?_) h
  rw [List.getElem?_zipIdx] at e e'
  obtain ⟨y, hy, rfl⟩ := Option.map_eq_some_iff.mp e
  obtain ⟨y', hy', rfl⟩ := Option.map_eq_some_iff.mp e'
  rw [Array.getElem?_toList] at hy hy'
  exact ⟨hm.2 i _ _ hy hy', rfl⟩
set_option maxHeartbeats 4000000 in
theorem Sm.mergeAt (hk : RKey M Γ s s' kd kd' RK) {i : Nat} : Sm M Γ s s' (RS kd kd' RK) Eq (mergeAt' i) (mergeAt' i) := by
  rw [mergeAt'_eq]
  dsimp only
  refine Sm.bind Sm.get fun st st' h => ?_
  have hA := h.a
  obtain ⟨g, e1, e2⟩ := h.pEq
  rw [e1, e2]
  generalize g[i]? = u
  generalize g[i + 1]? = v
  rcases u with _ | ⟨sa, na, pw⟩
  · exact Sm.unsup
  rcases v with _ | ⟨sb, nb, pw2⟩
  · exact Sm.unsup
  dsimp only
  refine Sm.bind (Sm.set (h.setPending rfl)) fun _ _ _ => ?_
  refine Sm.bind (Sm.elem hA) fun x x' hx => ?_
  refine Sm.bind (Sm.gallop hk hx hA) fun b b' hb => ?_
  cases hb
  cases b with
  | none => exact Sm.pure rfl
  | some k =>
    dsimp only
    refine Sm.ite Iff.rfl (fun _ => Sm.pure rfl) (fun _ => ?_)
    refine Sm.bind (Sm.elem hA) fun y y' hy => ?_
    refine Sm.bind (Sm.gallop hk hy hA) fun b b' hb => ?_
    cases hb
    cases b with
    | none => exact Sm.pure rfl
    | some k2 =>
      dsimp only
      refine Sm.ite Iff.rfl (fun _ => Sm.pure rfl) (fun _ => ?_)
      have fin : ∀ m m', RA RK m m' → Sm M Γ s s' (RS kd kd' RK) Eq (do
          _root_.modify fun s => setArr s (List.foldl (fun a x => a.setIfInBounds (sa + k + x.snd) x.fst) (arrOf s) m.toList.zipIdx)
          let t ← MonadState.get
          Pure.pure (failedOf t).isNone : StateT SortSt Sem Bool) (do
          _root_.modify fun s => setArr s (List.foldl (fun a x => a.setIfInBounds (sa + k + x.snd) x.fst) (arrOf s) m'.toList.zipIdx)
          let t ← MonadState.get
          Pure.pure (failedOf t).isNone) := fun m m' hm => by
        refine Sm.bind (Sm.modify fun st st' h => h.setArr (RA.merged hm h.a)) fun _ _ _ => ?_
        refine Sm.bind Sm.get fun t t' ht => ?_
        rw [ht.f, ht.f']
        exact Sm.pure rfl
      refine Sm.ite Iff.rfl (fun _ => ?_) (fun _ => ?_)
      · exact Sm.bind (Sm.mergeLo hk (hA.extract _ _) (hA.extract _ _)) fun m m' hm => fin m m' hm
      · exact Sm.bind (Sm.mergeHi hk (hA.extract _ _) (hA.extract _ _)) fun m m' hm => fin m m' hm
local macro_rules | `(tactic| walk_at "sm5") => `(tactic| first
  | exact Sm.pure rfl
  | (refine Sm.ite Iff.rfl (fun _ => ?_) (fun _ => ?_))
  | (refine Sm.bind (Sm.countRun (by assumption)) ?_; intro b b' hb; cases hb; cases b <;> try dsimp only)
  | (refine Sm.bind (Sm.binarySort (by assumption)) ?_; intro b b' hb; cases hb; try dsimp only)
  | (refine Sm.bind (Sm.mergeAt (by assumption)) ?_; intro b b' hb; cases hb; try dsimp only)
  | (refine Sm.bind Sm.rule ?_; intro _ _ _; try dsimp only)
  | (refine Sm.bind Sm.get ?_; intro b b' hb; obtain ⟨g, e1, e2⟩ := hb.pEq; rw [e1, e2]; try dsimp only)
  | (refine Sm.bind (Sm.modify fun st st' h => h.setPending (by rw [h.p])) ?_; intro _ _ _; try dsimp only)
  | (refine Sm.bind (Sm.forIn (r := Eq) rfl ?_) ?_)
  | (intro i b b' h; cases h; try dsimp only)
  | (intro b b' h; cases h; obtain ⟨r, b⟩ := b; cases r <;> try dsimp only)
  | (generalize Array.back? _ = u; rcases u with _ | ⟨x, y, z⟩ <;> try dsimp only)
  | (generalize (ite (_ > 1) _ none : Option (Nat × Nat × Nat)) = u; rcases u with _ | ⟨x, y, z⟩ <;> try dsimp only))
set_option maxHeartbeats 4000000 in
theorem Sm.sortRuns (hk : RKey M Γ s s' kd kd' RK) : Sm M Γ s s' (RS kd kd' RK) Eq sortRuns' sortRuns' := by
  rw [sortRuns'_eq]
  dsimp only
  refine Sm.bind Sm.get fun st st' h => ?_
  have hs : (arrOf st).size = (arrOf st').size := h.a.1
  rw [hs]
  generalize (arrOf st').size = size
  repeat' walk_at "sm5"
end
end LQ

namespace LQ
open PySem PyProof PyProof.Rows
section
variable {M : Model} {Γ : Ctx} {s : Shared}
theorem wp_eqNone {Q : Bool → Pos → Shared → Prop} {E : Value → Pos → Shared → Prop} {p : Pos} : Sem.wp M Γ (eqBool .none .none) Q E p s = Q true p s := by
  unfold eqBool
  rw [Sem.wp_holding]
  rfl
theorem keyLt_tuples (b : Bool) (x y : Value) : keyLt' (tuples' b) x y = (do
    let xs ← Builtin.List.listItems x; let ys ← Builtin.List.listItems y
    for ((p, q), i) in (xs.toList.zip ys.toList).zipIdx do
      if !(← eqBool p q) then return ← oneLt' (b && i == 0) p q
    return xs.size < ys.size) := rfl
theorem wp_items {a : Addr} {o : Obj} {xs : Array Value} {n : Nat} {Q : Array Value → Pos → Shared → Prop} {E : Value → Pos → Shared → Prop} {p : Pos} (ho : s.heap.get? a = some o) (hd : o.data = .seq xs n) : Sem.wp M Γ (Builtin.List.listItems (.ref a)) Q E p s = Q xs p s := by
  unfold Builtin.List.listItems
  rw [Sem.wp_bind']
  simp only [seqItems?]
  rw [Sem.wp_bind']
  have e : ∀ (R : Obj → Pos → Shared → Prop), Sem.wp M Γ (PySem.load a) R E p s = R o p s := by
    intro R
    show Sem.wp M Γ (Sem.load a _ _) R E p s = _
    rw [Sem.wp_load, ho]
    exact propext ⟨fun ⟨o', h1, h2⟩ => by cases h1; exact h2, fun h => ⟨o, rfl, h⟩⟩
  rw [e, hd]
  rfl
theorem wp_forIn_same {β γ : Type} {f : γ → β → Sem (ForInStep β)} {c : β} : ∀ {l : List γ}, (∀ x ∈ l, ∀ (Q : ForInStep β → Pos → Shared → Prop) (E : Value → Pos → Shared → Prop) (p : Pos), Sem.wp M Γ (f x c) Q E p s = Q (.yield c) p s) → ∀ (Q : β → Pos → Shared → Prop) (E : Value → Pos → Shared → Prop) (p : Pos), Sem.wp M Γ (forIn l c f) Q E p s = Q c p s
  | [], _, Q, E, p => by rw [List.forIn_nil]; rfl
  | x :: l, h, Q, E, p => by
    rw [List.forIn_cons, Sem.wp_bind', h x (List.mem_cons_self ..)]
    exact wp_forIn_same (fun y hy => h y (List.mem_cons_of_mem _ hy)) Q E p
/-- tuples of Nones are compared by their lengths, with no room wanted -/
theorem wp_ltNones {b : Bool} {i j m n : Nat} {x y : Addr} {ox oy : Obj} {Q : Bool → Pos → Shared → Prop} {E : Value → Pos → Shared → Prop} {p : Pos} (hx : s.heap.get? x = some ox) (dx : ox.data = .seq (List.replicate i Value.none).toArray m) (hy : s.heap.get? y = some oy) (dy : oy.data = .seq (List.replicate j Value.none).toArray n) :
    Sem.wp M Γ (keyLt' (tuples' b) (.ref x) (.ref y)) Q E p s = Q (decide (i < j)) p s := by
  rw [keyLt_tuples, Sem.wp_bind', wp_items hx dx, Sem.wp_bind', wp_items hy dy, Sem.wp_bind']
  rw [wp_forIn_same]
  · show Sem.wp M Γ (Pure.pure (decide _)) Q E p s = _
    rw [show (List.replicate i Value.none).toArray.size = i by simp, show (List.replicate j Value.none).toArray.size = j by simp]
    rfl
  · intro z hz Q E p
    have hz1 : z.1 ∈ (List.replicate i Value.none).zip (List.replicate j Value.none) := by
      obtain ⟨z1, z2⟩ := z
      have := List.mem_zipIdx_iff_getElem?.mp hz
      exact List.mem_of_getElem? this
    obtain ⟨⟨u, v⟩, k⟩ := z
    have hu := List.of_mem_zip hz1
    obtain rfl : u = .none := (List.mem_replicate.mp hu.1).2
    obtain rfl : v = .none := (List.mem_replicate.mp hu.2).2
    dsimp only
    rw [Sem.wp_bind', wp_eqNone]
    rfl
end
end LQ

namespace LQ
open PySem PyProof PyProof.Rows
def fkS (N : Nat) : Shared := { heap := { objs := ((List.range N).map fun k => seqObj "tuple" (List.replicate k Value.none).toArray 0).toArray } }
theorem fk_get {N k : Nat} (h : k < N) : (fkS N).heap.get? k = some (seqObj "tuple" (List.replicate k Value.none).toArray 0) := by
  have e : (fkS N).heap.objs[k]? = some (seqObj "tuple" (List.replicate k Value.none).toArray 0) := by
    unfold fkS
    dsimp only
    rw [List.getElem?_toArray, List.getElem?_map, List.getElem?_range h]
    rfl
  unfold Heap.get?
  rw [e]
@[reducible] def fkK (N : Nat) : KeyKind where
  α := Int
  blt a b := decide (a < b)
  irrefl a := by simp
  trans a b c h1 h2 := by simp only [decide_eq_true_eq] at *; omega
  negTrans a b c h := by simp only [decide_eq_true_eq] at *; omega
  total a b h1 h2 := by simp only [decide_eq_false_iff_not] at *; omega
  keyOf v := match v with | .ref a => if a < N then some ((a : Nat) : Int) else none | _ => none
  dflt := 0
theorem fk_key {N : Nat} {v : Value} {a : Int} (h : (fkK N).keyOf v = some a) : ∃ k : Nat, k < N ∧ v = .ref k ∧ a = (k : Int) := by
  cases v with
  | ref k =>
    have h : (if k < N then some ((k : Nat) : Int) else none) = some a := h
    split at h
    · rename_i hk; cases h; exact ⟨k, hk, rfl, rfl⟩
    · cases h
  | _ => cases h
theorem fk_ltAt {N : Nat} {prog : Program} {w : World} : G.LtAt prog w (fkS N) (fkK N) (tuples' false) := by
  intro A E x y a b Q hx hy hq
  obtain ⟨i, hi, rfl, rfl⟩ := fk_key hx
  obtain ⟨j, hj, rfl, rfl⟩ := fk_key hy
  intro Γ p _
  rw [wp_ltNones (fk_get hi) rfl (fk_get hj) rfl]
  have hq : Q (decide (((i : Nat) : Int) < ((j : Nat) : Int))) (fkS N) := hq
  rwa [show decide (((i : Nat) : Int) < ((j : Nat) : Int)) = decide (i < j) by simp] at hq
def fkIx (x : Keyed) : Nat := match x.2 with
  | .int i _ => i.toNat
  | _ => 0
def fkE (ρ : Nat → Nat) (i : Nat) : Keyed := (.ref (ρ i), .int (i : Int) 0)
def FkR (vs : List Value) (ρ : Nat → Nat) (x x' : Keyed) : Prop := ∃ (i : Nat) (v : Value), vs[i]? = some v ∧ x = (v, v) ∧ x' = fkE ρ i
theorem wpS_sortAt {prog : Program} {w : World} {A : Around} {E : Value → Shared → Prop} {s : Shared} {kd : SortKind} {vs : List Value} {ρ : Nat → Nat} {N : Nat} (hN : ∀ i, i < vs.length → ρ i < N) (h2 : 2 ≤ vs.length)
    (hlt : ∀ (i j : Nat) (x y : Value), vs[i]? = some x → vs[j]? = some y → ∀ Q : Bool → Shared → Prop, Q (decide (ρ i < ρ j)) s → wpAny (model prog w) A (keyLt' kd x y) Q (fun _ _ => False) s)
    {Q : Unit → SortSt → Prop}
    (h : ∀ (st' : SortSt) (π : List Nat), π.Perm (List.range vs.length) → (arrOf st').toList.map some = π.map (fun i => (vs[i]?).map fun v => (v, v)) → π.Pairwise (fun i j => ρ i ≤ ρ j) → failedOf st' = none → Q () st') :
    wpS (model prog w) A E s sortRuns' Q (SortSt.mk' kd (pairsOf vs) #[] 7 none) := by
  intro Γ p hΓ
  obtain ⟨a0, ha0⟩ : ∃ a0 : Array Keyed, a0 = ((List.range vs.length).map (fkE ρ)).toArray := ⟨_, rfl⟩
  have hsz : a0.size = vs.length := by rw [ha0]; simp
  have hkeys : KeysOf (fkK N) a0 := by
    intro q hq
    rw [ha0] at hq
    obtain ⟨i, hi, rfl⟩ := List.mem_map.mp (show q ∈ (List.range vs.length).map (fkE ρ) from hq)
    exact ⟨((ρ i : Nat) : Int), if_pos (hN i (List.mem_range.mp hi))⟩
  have fake := G.wpS_sortRunsSt (prog := prog) (w := w) (A := A) (E := fun _ _ => False) (s := fkS N) (kd := tuples' false) (κ := fkK N) (a₀ := a0) (st := SortSt.mk' (tuples' false) a0 #[] 7 none)
    (Q := fun _ st' => (arrOf st').Perm a0 ∧ SortedToK (fkK N) (arrOf st') a0.size) fk_ltAt hkeys ⟨Array.Perm.refl _, rfl, rfl⟩ rfl (Stable.refl _) (by omega) (fun st' h1 _ h3 _ => ⟨h1, h3⟩)
  have fake := fake Γ p hΓ
  have hk : RKey (model prog w) Γ s (fkS N) kd (tuples' false) (FkR vs ρ) := ⟨fun {x y x' y'} hx hy p p' Q' E' hw => by
    obtain ⟨i, v, hi, rfl, rfl⟩ := hx
    obtain ⟨j, u, hj, rfl, rfl⟩ := hy
    have hi2 : i < vs.length := (List.getElem?_eq_some_iff.mp hi).1
    have hj2 : j < vs.length := (List.getElem?_eq_some_iff.mp hj).1
    have hw : Sem.wp (model prog w) Γ (keyLt' (tuples' false) (.ref (ρ i)) (.ref (ρ j))) Q' E' p' (fkS N) := hw
    rw [wp_ltNones (fk_get (hN i hi2)) rfl (fk_get (hN j hj2)) rfl] at hw
    exact hlt i j v u hi hj (fun b s1 => s1 = s ∧ ∃ p1, Q' b p1 (fkS N)) ⟨rfl, p', hw⟩ Γ p hΓ⟩
  have hRA : RA (FkR vs ρ) (pairsOf vs) a0 := by
    refine ⟨by rw [pairsOf_size, hsz], fun i x x' e e' => ?_⟩
    rw [← Array.getElem?_toList, pairsOf_toList] at e
    rw [ha0, List.getElem?_toArray] at e'
    rw [List.getElem?_map] at e'
    obtain ⟨k, hk, rfl⟩ := Option.map_eq_some_iff.mp e'
    obtain ⟨hk1, hk2⟩ := List.getElem?_eq_some_iff.mp hk
    rw [List.getElem_range] at hk2
    subst hk2
    obtain ⟨e1, e2⟩ := List.getElem?_zip_eq_some.mp e
    obtain ⟨x1, x2⟩ := x
    have e1 : vs[i]? = some x1 := e1
    have e2 : vs[i]? = some x2 := e2
    rw [e1] at e2
    cases e2
    exact ⟨i, x1, e1, rfl, rfl⟩
  have hR : RS kd (tuples' false) (FkR vs ρ) (SortSt.mk' kd (pairsOf vs) #[] 7 none) (SortSt.mk' (tuples' false) a0 #[] 7 none) := ⟨rfl, rfl, hRA, rfl, rfl, rfl, rfl⟩
  have real := (Sm.sortRuns hk).use (SortSt.mk' kd (pairsOf vs) #[] 7 none) _ p p _ hR fake
  refine Sem.wp_mono _ Γ _ (fun x p1 s1 hx => ?_) (fun _ _ _ h => h.elim) p s real
  obtain ⟨rfl, x', p2, hR2, _, _, hperm, hsort⟩ := hx
  refine ⟨rfl, ?_⟩
  have hl : (arrOf x'.2).toList.Perm ((List.range vs.length).map (fkE ρ)) := by
    have := Array.perm_iff_toList_perm.mp hperm
    rw [ha0] at this
    exact this
  have hix : ∀ i, fkIx (fkE ρ i) = i := fun i => Int.toNat_natCast i
  obtain ⟨hs2, hrel⟩ := hR2.a
  have hall : ∀ (k : Nat) (z' : Keyed), (arrOf x'.2)[k]? = some z' → ∃ (i : Nat) (v : Value), vs[i]? = some v ∧ (arrOf x.2)[k]? = some (v, v) ∧ z' = fkE ρ i := by
    intro k z' hz
    have hk1 : k < (arrOf x.2).size := by rw [hs2]; exact (Array.getElem?_eq_some_iff.mp hz).1
    obtain ⟨i, v, h1, h3, h4⟩ := hrel k _ z' (Array.getElem?_eq_getElem hk1) hz
    exact ⟨i, v, h1, by rw [Array.getElem?_eq_getElem hk1, h3], h4⟩
  refine h x.2 ((arrOf x'.2).toList.map fkIx) ?_ ?_ ?_ hR2.f
  · have := hl.map fkIx
    rw [List.map_map] at this
    rwa [show (List.range vs.length).map (fkIx ∘ fkE ρ) = List.range vs.length from by rw [show fkIx ∘ fkE ρ = id from funext hix]; exact List.map_id _] at this
  · refine List.ext_getElem? fun k => ?_
    rw [List.getElem?_map, List.map_map, List.getElem?_map, Array.getElem?_toList, Array.getElem?_toList]
    cases e : (arrOf x'.2)[k]? with
    | none =>
      have : (arrOf x.2)[k]? = none := by
        rw [Array.getElem?_eq_none_iff] at e ⊢
        omega
      rw [this]; rfl
    | some z' =>
      obtain ⟨i, v, h1, h3, rfl⟩ := hall k z' e
      rw [h3]
      show some (some (v, v)) = some ((vs[fkIx (fkE ρ i)]?).map fun v => (v, v))
      rw [hix, h1]; rfl
  · rw [List.pairwise_iff_getElem]
    intro a b ha hb hab
    rw [List.length_map, Array.length_toList] at ha hb
    have hb' : b < a0.size := by rw [← hperm.size_eq]; exact hb
    obtain ⟨i, v, h1, _, h4⟩ := hall a _ (Array.getElem?_eq_getElem ha)
    obtain ⟨j, u, h5, _, h6⟩ := hall b _ (Array.getElem?_eq_getElem hb)
    have hi2 : i < vs.length := (List.getElem?_eq_some_iff.mp h1).1
    have hj2 : j < vs.length := (List.getElem?_eq_some_iff.mp h5).1
    have hs := hsort a b (Nat.le_of_lt hab) hb'
    have kk : ∀ (k m : Nat), (hm : m < vs.length) → (arrOf x'.2)[k]? = some (fkE ρ m) → KK (fkK N) (arrOf x'.2) k = ((ρ m : Nat) : Int) := by
      intro k m hm e
      unfold KK
      rw [e]
      show ((fkK N).keyOf (.ref (ρ m))).getD 0 = _
      rw [show (fkK N).keyOf (.ref (ρ m)) = some ((ρ m : Nat) : Int) from if_pos (hN m hm)]
      rfl
    rw [kk a i hi2 (by rw [Array.getElem?_eq_getElem ha, h4]), kk b j hj2 (by rw [Array.getElem?_eq_getElem hb, h6])] at hs
    have hs : decide (((ρ j : Nat) : Int) < ((ρ i : Nat) : Int)) = false := hs
    rw [List.getElem_map, List.getElem_map, Array.getElem_toList, Array.getElem_toList, h4, h6, hix, hix]
    have := of_decide_eq_false hs
    omega
end LQ

namespace LQ
open PySem PyProof PyProof.Rows PyProof.Rows.G
/-- what a sort leaves: the values in an order of ranks -/
def Ranked (vs : List Value) (ρ : Nat → Nat) (out : List Value) : Prop := ∃ π : List Nat, π.Perm (List.range vs.length) ∧ out.map some = π.map (fun i => vs[i]?) ∧ π.Pairwise (fun i j => ρ i ≤ ρ j)
/-- keys that are compared by their ranks, at one Around and heap -/
def CmpAt (prog : Program) (w : World) (A : Around) (s : Shared) (kd : SortKind) (vs : List Value) (ρ : Nat → Nat) : Prop :=
  ∀ (i j : Nat) (x y : Value), vs[i]? = some x → vs[j]? = some y → ∀ Q : Bool → Shared → Prop, Q (decide (ρ i < ρ j)) s → wpAny (model prog w) A (keyLt' kd x y) Q (fun _ _ => False) s
theorem Ranked.of {vs : List Value} {ρ : Nat → Nat} {st : SortSt} {π : List Nat} (h1 : π.Perm (List.range vs.length)) (h2 : (arrOf st).toList.map some = π.map (fun i => (vs[i]?).map fun v => (v, v))) (h3 : π.Pairwise (fun i j => ρ i ≤ ρ j)) : Ranked vs ρ ((arrOf st).map (·.2)).toList := by
  refine ⟨π, h1, ?_, h3⟩
  have := congrArg (List.map (Option.map Prod.snd)) h2
  rw [List.map_map, List.map_map] at this
  rw [Array.toList_map, List.map_map]
  refine this.trans (List.map_congr_left fun i _ => ?_)
  show Option.map Prod.snd ((vs[i]?).map fun v => (v, v)) = vs[i]?
  cases vs[i]? <;> rfl
section
variable {prog : Program} {w : World} {A : Around} {E : Value → Shared → Prop} {s : Shared}
theorem list_sort_at {kd : SortKind} {ρ : Nat → Nat} {N : Nat} {a : Addr} {vs : List Value} {n : Nat} {P : Fin → Shared → Prop} (ho : s.heap.get? a = some (seqObj "list" vs.toArray n)) (hN : ∀ i, i < vs.length → ρ i < N)
    (hO : CmpAt prog w A { s with heap := sortHeap6 s.heap a vs } kd vs ρ)
    (hkk : 2 ≤ vs.length → ∀ {Q : SortKind → Shared → Prop}, Q kd { s with heap := sortHeap6 s.heap a vs } → wpAny (model prog w) A (keyKind' vs.toArray) Q E { s with heap := sortHeap6 s.heap a vs }) (hL : vs.length ≤ sizeLine)
    (h : ∀ out : Array Value, Ranked vs ρ out.toList → P (.done (.ret .none)) { s with heap := sortedHeap s.heap a vs out }) :
    wpAny (model prog w) A (Builtin.«list.sort» ⟨[.ref a], []⟩) P E s := by
  have hL2 := hL
  rw [sizeLine_eq] at hL2
  have ha : a < s.heap.objs.size := Heap.lt_size ho
  obtain ⟨e1, ho1⟩ : ∃ e1, (s.heap.update a (Obj.mapSeq fun _ => #[])).get? a = some (seqObj "list" #[] e1) := ⟨_, get?_update_seq ho (fun _ => #[])⟩
  have ho6 : (sortHeap6 s.heap a vs).get? a = some (seqObj "list" #[] e1) := by
    unfold sortHeap6
    rw [Heap.get?_push_ne _ _ _ (by rw [size_push', Heap.size_update]; exact Nat.ne_of_lt (Nat.lt_succ_of_lt ha)), Heap.get?_push_ne _ _ _ (by rw [Heap.size_update]; exact Nat.ne_of_lt ha)]
    exact ho1
  have fin : ∀ (st : SortSt), (arrOf st).size = vs.length → failedOf st = none → Ranked vs ρ ((arrOf st).map (·.2)).toList → wpAny (model prog w) A (do
      let touched := (← seqEpoch a) != e1
      Builtin.List.listUpdate (.ref a) fun _ => (arrOf st).map (·.2)
      if let some e := failedOf st then rule "list.sort.comparison-raised"; throw e
      if touched then rule "list.sort.modified"; raiseError "ValueError" "list modified during sort"
      ret .none) P E { s with heap := sortHeap6 s.heap a vs } := by
    intro st hsz hf hr
    refine wpAny_bind (seqEpoch_at ho6 rfl ?_)
    refine wpAny_bind (listUpdate_at ho6 rfl ?_ (hsz2 := by rw [Array.size_map, hsz, sizeLine_eq]; omega))
    rw [hf]
    simp only [bne_self_eq_false, Bool.false_eq_true, if_false]
    exact wpAny_pure (h _ hr)
  rw [list_sort_plain]
  refine wpAny_bind (listItems_at ho rfl ?_)
  refine wpAny_bind (listUpdate_at ho rfl ?_)
  refine wpAny_bind (seqEpoch_at ho1 rfl ?_)
  refine wpAny_bind (wpAny_newTuple ?_)
  refine wpAny_bind (wpAny_newList ?_)
  refine wpAny_holding ?_
  show wpAny (model prog w) A _ P E { s with heap := sortHeap6 s.heap a vs }
  dsimp only
  have hsz : vs.toArray.size = vs.length := by simp
  by_cases h2 : vs.toArray.size < 2
  · rw [if_pos h2, if_pos h2]
    refine wpAny_bind (wpAny_pure ?_)
    rw [StateT.run_pure]
    refine wpAny_bind (wpAny_pure ?_)
    refine fin (SortSt.mk' general' (pairsOf vs) #[] 7 none) (pairsOf_size _) rfl ?_
    refine Ranked.of (π := List.range vs.length) (List.Perm.refl _) ?_ ?_
    · show (pairsOf vs).toList.map some = _
      rw [pairsOf_toList]
      refine List.ext_getElem? fun k => ?_
      rw [List.getElem?_map, List.getElem?_map]
      by_cases hk : k < vs.length
      · rw [List.getElem?_range hk, show (vs.zip vs)[k]? = some (vs[k], vs[k]) from List.getElem?_zip_eq_some.mpr ⟨List.getElem?_eq_getElem hk, List.getElem?_eq_getElem hk⟩]
        simp [hk]
      · rw [List.getElem?_eq_none (by simp; omega), List.getElem?_eq_none (by simp; omega)]; rfl
    · rw [List.pairwise_iff_getElem]
      intro i j hi hj hij
      rw [List.length_range] at hj
      omega
  · rw [if_neg h2, if_neg h2]
    refine wpAny_bind (hkk (by omega) ?_)
    refine wpAny_bind (wpAny_mono (wpS_sortAt (kd := kd) (vs := vs) (ρ := ρ) (N := N) hN (by omega) hO (Q := fun _ st' => (arrOf st').size = vs.length ∧ failedOf st' = none ∧ Ranked vs ρ ((arrOf st').map (·.2)).toList) (fun st' π a1 a2 a3 a4 => ⟨?_, a4, Ranked.of a1 a2 a3⟩)) ?_ fun _ _ e => e)
    · have := congrArg List.length a2
      rw [List.length_map, List.length_map, a1.length_eq, List.length_range, Array.length_toList] at this
      exact this
    · rintro ⟨⟨⟩, st'⟩ s' ⟨rfl, a1, a2, a3⟩
      exact fin st' a1 a2 a3
end
end LQ

namespace LQ
open PySem PyProof PyProof.Rows PyProof.Rows.G
section
variable {prog : Program} {w : World} {A : Around} {E : Value → Shared → Prop} {s : Shared}
theorem sorted_at {kd : SortKind} {ρ : Nat → Nat} {N : Nat} {l : Addr} {vs : List Value} {Q : Value → Shared → Prop} (hl : s.heap.IsList l vs.toArray) (hN : ∀ i, i < vs.length → ρ i < N)
    (hO : ∀ (A' : Around) (s₂ : Shared), A'.units ≤ A.units + 10 → KeepsTups s.heap s₂.heap → CmpAt prog w A' s₂ kd vs ρ)
    (hkk : 2 ≤ vs.length → ∀ (A : Around) (E : Value → Shared → Prop) (s₂ : Shared) {Q : SortKind → Shared → Prop}, KeepsTups s.heap s₂.heap → Q kd s₂ → wpAny (model prog w) A (keyKind' vs.toArray) Q E s₂) (hL : vs.length ≤ sizeLine)
    (h : ∀ out : Array Value, Ranked vs ρ out.toList → Q (.ref (s.heap.objs.size + 1)) { s with heap := sortedAll s.heap vs out }) :
    wpAny (model prog w) A (call (.builtin "sorted") [.ref l]) Q E s := by
  have hnew : (s.heap.push (seqObj "list" #[] 0)).get? s.heap.objs.size = some (seqObj "list" #[] 0) := Heap.get?_push_size _ rfl
  have hsz : ((s.heap.push (seqObj "list" #[] 0)).update s.heap.objs.size (Obj.mapSeq (· ++ vs.toArray))).objs.size = s.heap.objs.size + 1 := by
    rw [Heap.size_update, size_push']
  obtain ⟨h0, hh0⟩ : ∃ h0, h0 = ((s.heap.push (seqObj "list" #[] 0)).update s.heap.objs.size (Obj.mapSeq (· ++ vs.toArray))).push (seqObj "list" vs.toArray 0) := ⟨_, rfl⟩
  have hoL : h0.get? (s.heap.objs.size + 1) = some (seqObj "list" vs.toArray 0) := by
    rw [hh0, ← hsz]; exact Heap.get?_push_size _ rfl
  have k0 : KeepsTups s.heap h0 := by
    rw [hh0]
    exact ((KeepsTups.push _ _).trans (KeepsTups.update _ hnew not_tuple_list)).trans (KeepsTups.push _ _)
  have k6 := k0.trans (keeps_sort6 (vs := vs) hoL)
  refine Calls.call_function_entry kind_sorted plain_sorted entry_sorted (args_sorted1 _) ?_
  unfold Builtin.«sorted»
  refine wpAny_bind (m := checkCount "sorted" 1 1 _) (wpAny_pure ?_)
  refine wpAny_bind (collect_list hl ?_)
  refine wpAny_bind (wpAny_newList ?_)
  rw [hsz]
  show wpAny _ _ _ _ _ { s with heap := ((s.heap.push (seqObj "list" #[] 0)).update s.heap.objs.size (Obj.mapSeq (· ++ vs.toArray))).push (seqObj "list" vs.toArray 0) }
  rw [← hh0]
  have hret : ∀ out : Array Value, Ranked vs ρ out.toList → Q (.ref (s.heap.objs.size + 1)) { s with heap := sortedHeap h0 (s.heap.objs.size + 1) vs out } := fun out hr => by
    have := h out hr
    rw [hh0]
    exact this
  refine wpAny_bind (wpAny_holding (wpAny_call_entry slot_list_sort ⟨_, hoL, rfl⟩ entry_list_sort (list_sort_at (kd := kd) (ρ := ρ) (N := N) hoL hN ?ordG ?keyG hL fun out hr => ⟨_, rfl, ?retG⟩) (args_list_sort _)))
  case ordG => exact hO _ _ (by first | omega | (simp; done) | (show _ ≤ _; simp [Around.under]; omega)) k6
  case keyG =>
    intro h2 R hq
    exact hkk h2 _ _ _ k6 hq
  case retG => exact wpAny_pure ⟨_, rfl, hret out hr⟩
end
end LQ

namespace LQ
open PySem PySem.Spec PySem.SeqAt PyProof PyProof.Rows PyProof.Rows.G L2
section
variable {prog : Program} {w : World} {A : Around} {E : Value → Shared → Prop} {s : Shared}
theorem oneLt_false {x y : Value} {r : Bool} {Q : Bool → Shared → Prop} (h : LtV A s x y r) (hQ : Q r s) : wpAny (model prog w) A (oneLt' false x y) Q E s := by
  rw [oneLt'_eq]
  show wpAny _ _ (do let t ← richCompare .Lt x y; truthOfDropped t) Q E s
  exact wpAny_bind (h prog w E _ (wpAny_truthy_bool hQ))
theorem oneLt_ints {a b : Int} {t u : Tok} {Q : Bool → Shared → Prop} (hQ : Q (decide (a < b)) s) : wpAny (model prog w) A (oneLt' true (.int a t) (.int b u)) Q E s :=
  intKind_oneLt prog w A E s (.int a t) (.int b u) a b rfl rfl hQ
def TupBody (b : Bool) (x : (Value × Value) × Nat) : Sem (ForInStep (Option Bool × Unit)) := do
  if !(← eqBool x.1.1 x.1.2) then do
    let r ← oneLt' (b && x.2 == 0) x.1.1 x.1.2
    Pure.pure (.done (some r, ()))
  else Pure.pure (.yield (none, ()))
theorem tup_loop {b : Bool} {n : Nat} {r : Bool} (hu : A.units + n < cLine) : ∀ (vs ws : List Value) (ds es : List PyData) (as bs : List Addr) (k : Nat), ReadsAll s.heap vs ds as → ReadsAll s.heap ws es bs → PyData.canLayAll0 ds = true → PyData.canLayAll0 es = true → PyData.depthAll ds ≤ n → PyData.depthAll es ≤ n →
    ltDs ds es = some r → (b = true → k = 0 → ∀ (d e : PyData) (ds' es' : List PyData), ds = d :: ds' → es = e :: es' → ∃ x y : Int, d = .int x ∧ e = .int y) →
    wpAny (model prog w) A (forIn ((vs.zip ws).zipIdx k) (none, ()) fun x _ => TupBody b x) (fun st s1 => s1 = s ∧ (st.1 = some r ∨ (st.1 = none ∧ r = decide (vs.length < ws.length)))) E s
  | [], ws, ds, es, as, bs, k, ra, rb, la, lb, da, db, h, hb => by
    cases ra
    rw [show (([] : List Value).zip ws).zipIdx k = [] from rfl, List.forIn_nil]
    refine wpAny_pure ⟨rfl, .inr ⟨rfl, ?_⟩⟩
    cases rb with
    | nil => cases h; rfl
    | cons _ _ => cases h; simp
  | v :: vs, [], ds, es, as, bs, k, ra, rb, la, lb, da, db, h, hb => by
    cases rb
    rw [show ((v :: vs).zip ([] : List Value)).zipIdx k = [] from rfl, List.forIn_nil]
    refine wpAny_pure ⟨rfl, .inr ⟨rfl, ?_⟩⟩
    cases ra; cases h; simp
  | v :: vs, u :: ws, ds, es, as, bs, k, ra, rb, la, lb, da, db, h, hb => by
    cases ra with
    | @cons _ _ d ds _ _ r1 ra =>
      cases rb with
      | @cons _ _ e es _ _ r2 rb =>
        have la' : d.canLay0 = true ∧ PyData.canLayAll0 ds = true := by simpa [PyData.canLayAll0] using la
        have lb' : e.canLay0 = true ∧ PyData.canLayAll0 es = true := by simpa [PyData.canLayAll0] using lb
        have da' : d.depth ≤ n ∧ PyData.depthAll ds ≤ n := by simp only [PyData.depthAll] at da; omega
        have db' : e.depth ≤ n ∧ PyData.depthAll es ≤ n := by simp only [PyData.depthAll] at db; omega
        rw [show ((v :: vs).zip (u :: ws)).zipIdx k = ((v, u), k) :: (vs.zip ws).zipIdx (k + 1) from rfl, List.forIn_cons]
        unfold TupBody
        refine wpAny_bind (wpAny_bind (eqBoolOverData prog w A E s v u d e _ _ _ r1 r2 la'.1 lb'.1 (by omega) ?_))
        rw [ltDs] at h
        by_cases he : PyData.eqv d e = true
        · rw [if_pos he] at h
          rw [if_neg (by rw [he]; decide)]
          refine wpAny_pure ?_
          refine wpAny_mono (tup_loop hu vs ws ds es _ _ (k + 1) ra rb la'.2 lb'.2 da'.2 db'.2 h (fun _ hk => absurd hk (Nat.succ_ne_zero k))) (fun st s1 h1 => ⟨h1.1, h1.2.imp id fun z => ⟨z.1, z.2.trans (by simp)⟩⟩) fun _ _ h => h
        · rw [if_neg he] at h
          rw [if_pos (by simp [he])]
          have fin : wpAny (model prog w) A (oneLt' (b && k == 0) v u) (fun x s1 => s1 = s ∧ x = r) E s := by
            cases hf : (b && k == 0) with
            | false => exact oneLt_false (ltAt_reads n d e A s v u _ _ r r1 r2 la'.1 lb'.1 da'.1 db'.1 hu h) ⟨rfl, rfl⟩
            | true =>
              rw [Bool.and_eq_true, beq_iff_eq] at hf
              obtain ⟨x, y, rfl, rfl⟩ := hb hf.1 hf.2 d e ds es rfl rfl
              cases r1; cases r2
              cases h
              exact oneLt_ints ⟨rfl, rfl⟩
          refine wpAny_bind (wpAny_mono fin (fun x s1 h1 => ?_) fun _ _ h => h)
          obtain ⟨rfl, rfl⟩ := h1
          exact wpAny_pure (wpAny_pure ⟨rfl, .inl rfl⟩)
theorem keyLt_data {b : Bool} {n : Nat} {r : Bool} {x y : Value} {ds es : List PyData} {as bs : List Addr} {Q : Bool → Shared → Prop} (hu : A.units + n < cLine) (rx : Reads s.heap x (.tuple ds) as) (ry : Reads s.heap y (.tuple es) bs) (lx : PyData.canLayAll0 ds = true) (ly : PyData.canLayAll0 es = true) (dx : PyData.depthAll ds ≤ n) (dy : PyData.depthAll es ≤ n)
    (h : ltDs ds es = some r) (hb : b = true → ∀ (d e : PyData) (ds' es' : List PyData), ds = d :: ds' → es = e :: es' → ∃ x y : Int, d = .int x ∧ e = .int y) (hQ : Q r s) : wpAny (model prog w) A (keyLt' (tuples' b) x y) Q E s := by
  cases rx with
  | tuple ho hc hd ra =>
    cases ry with
    | tuple ho2 hc2 hd2 rb =>
      rw [keyLt_tuples]
      refine wpAny_bind (listItems_at ho hd (wpAny_bind (listItems_at ho2 hd2 (wpAny_bind ?_))))
      refine wpAny_mono (tup_loop (b := b) hu _ _ ds es _ _ 0 ra rb lx ly dx dy h (fun h1 _ => hb h1)) (fun st s1 h1 => ?_) fun _ _ h => h
      obtain ⟨rfl, h1⟩ := h1
      obtain ⟨o, u⟩ := st
      rcases h1 with h1 | ⟨h1, h3⟩
      · have h1 : o = some r := h1
        subst h1
        exact wpAny_pure hQ
      · have h1 : o = none := h1
        subst h1
        refine wpAny_pure ?_
        rw [h3] at hQ
        simpa using hQ
end
end LQ

namespace LQ
open PySem PySem.Spec PySem.SeqAt PyProof PyProof.Rows PyProof.Rows.G L2
def rk (lt : Nat → Nat → Bool) (n i : Nat) : Nat := (List.range n).countP fun k => lt k i
theorem countP_lt {p q : Nat → Bool} : ∀ (l : List Nat), (∀ x ∈ l, p x = true → q x = true) → (∃ x ∈ l, p x = false ∧ q x = true) → l.countP p < l.countP q
  | [], _, ⟨x, hx, _⟩ => by cases hx
  | a :: l, h, ⟨x, hx, h1, h2⟩ => by
    rw [List.countP_cons, List.countP_cons]
    have hle : l.countP p ≤ l.countP q := List.countP_mono_left fun y hy hp => h y (List.mem_cons_of_mem _ hy) hp
    rcases List.mem_cons.mp hx with rfl | hx
    · rw [h1, h2]; simp; omega
    · have := countP_lt l (fun y hy => h y (List.mem_cons_of_mem _ hy)) ⟨x, hx, h1, h2⟩
      have ha := h a (List.mem_cons_self ..)
      cases hp : p a with
      | true => rw [ha hp]; simp; omega
      | false => cases q a <;> simp <;> omega
theorem rk_lt {lt : Nat → Nat → Bool} {n : Nat} (irr : ∀ i, i < n → lt i i = false) (tr : ∀ i j k, i < n → j < n → k < n → lt i j = true → lt j k = true → lt i k = true) (nt : ∀ i j k, i < n → j < n → k < n → lt i k = true → lt i j = true ∨ lt j k = true) {i j : Nat} (hi : i < n) (hj : j < n) :
    decide (rk lt n i < rk lt n j) = lt i j := by
  cases e : lt i j with
  | true =>
    refine decide_eq_true (countP_lt _ (fun k hk h => tr k i j (List.mem_range.mp hk) hi hj h e) ⟨i, List.mem_range.mpr hi, irr i hi, e⟩)
  | false =>
    refine decide_eq_false ?_
    have : rk lt n j ≤ rk lt n i := List.countP_mono_left fun k hk h => by
      rcases nt k i j (List.mem_range.mp hk) hi hj h with h1 | h1
      · exact h1
      · rw [e] at h1; cases h1
    omega
theorem rk_le {lt : Nat → Nat → Bool} {n i : Nat} : rk lt n i < n + 1 := by
  have := List.countP_le_length (p := fun k => lt k i) (l := List.range n)
  rw [List.length_range] at this
  unfold rk
  omega
mutual
def flat : PyData → Bool
  | .int _ => true
  | .str _ => true
  | .bool _ => true
  | .none => true
  | .tuple xs => flatAll xs
  | .list _ => false
  | .dict _ => false
def flatAll : List PyData → Bool
  | [] => true
  | x :: xs => flat x && flatAll xs
end
mutual
theorem Reads.kept {h h' : Heap} (k : KeepsTups h h') : ∀ (d : PyData) (v : Value) (as : List Addr), flat d = true → Reads h v d as → Reads h' v d as
  | .int _, _, _, _, r => by cases r; exact .int _ _
  | .str _, _, _, _, r => by cases r; exact .str _ _
  | .bool _, _, _, _, r => by cases r; exact .bool _
  | .none, _, _, _, r => by cases r; exact .none
  | .tuple xs, _, _, f, r => by
    cases r with
    | tuple h1 h2 h3 h4 => exact .tuple (k _ _ h1 h2) h2 h3 (ReadsAll.kept k xs _ _ (by unfold flat at f; exact f) h4)
  | .list _, _, _, f, _ => by unfold flat at f; cases f
  | .dict _, _, _, f, _ => by unfold flat at f; cases f
theorem ReadsAll.kept {h h' : Heap} (k : KeepsTups h h') : ∀ (ds : List PyData) (vs : List Value) (as : List Addr), flatAll ds = true → ReadsAll h vs ds as → ReadsAll h' vs ds as
  | [], _, _, _, r => by cases r; exact .nil
  | d :: ds, _, _, f, r => by
    unfold flatAll at f
    rw [Bool.and_eq_true] at f
    cases r with
    | cons r1 r2 => exact .cons (Reads.kept k d _ _ f.1 r1) (ReadsAll.kept k ds _ _ f.2 r2)
end
section
variable {prog : Program} {w : World} {A : Around} {E : Value → Shared → Prop} {s : Shared}
theorem tups_of : ∀ {vs : List Value}, (∀ v ∈ vs, ∃ (k : Int) (xs : List PyData) (as : List Addr), Reads s.heap v (.tuple (.int k :: xs)) as) → ∃ fs, TupsOf s.heap (fun _ => false) vs fs
  | [], _ => ⟨[], .nil⟩
  | v :: vs, h => by
    obtain ⟨fs, hf⟩ := tups_of fun u hu => h u (List.mem_cons_of_mem _ hu)
    obtain ⟨k, xs, as, r⟩ := h v (List.mem_cons_self ..)
    cases r with
    | @tuple a o ws m _ _ h1 h2 h3 h4 =>
      obtain ⟨items⟩ := ws
      cases h4 with
      | cons r1 r2 =>
        cases r1
        exact ⟨_ :: fs, .cons ⟨a, o, _, m, rfl, h1, h2, h3, rfl, fun _ => ⟨_, _, rfl⟩, fun z => by cases z⟩ hf⟩
/-- sorted of a list of tuples, each begun by a whole number -/
theorem sorted_data {l : Addr} {vs : List Value} {dss : List (List PyData)} {n : Nat} {lt : Nat → Nat → Bool} {Q : Value → Shared → Prop} (hl : s.heap.IsList l vs.toArray) (hL : vs.length ≤ sizeLine) (hu : A.units + 10 + n < cLine)
    (hR : ∀ (i : Nat) (v : Value), vs[i]? = some v → ∃ (k : Int) (xs : List PyData) (as : List Addr), dss[i]? = some (.int k :: xs) ∧ Reads s.heap v (.tuple (.int k :: xs)) as ∧ flatAll (.int k :: xs) = true ∧ PyData.canLayAll0 (.int k :: xs) = true ∧ PyData.depthAll (.int k :: xs) ≤ n)
    (hlt : ∀ (i j : Nat) (xs ys : List PyData), dss[i]? = some xs → dss[j]? = some ys → ltDs xs ys = some (lt i j))
    (irr : ∀ i, i < vs.length → lt i i = false) (tr : ∀ i j k, i < vs.length → j < vs.length → k < vs.length → lt i j = true → lt j k = true → lt i k = true) (nt : ∀ i j k, i < vs.length → j < vs.length → k < vs.length → lt i k = true → lt i j = true ∨ lt j k = true)
    (h : ∀ out : Array Value, Ranked vs (rk lt vs.length) out.toList → Q (.ref (s.heap.objs.size + 1)) { s with heap := sortedAll s.heap vs out }) :
    wpAny (model prog w) A (call (.builtin "sorted") [.ref l]) Q E s := by
  refine sorted_at (kd := tuples' true) (ρ := rk lt vs.length) (N := vs.length + 1) hl (fun i _ => rk_le) (fun A' s₂ hA k i j x y hx hy Q hQ => ?_) (fun h2 A E s₂ Q k hq => ?_) hL h
  · obtain ⟨a, xs, as, e1, r1, f1, c1, d1⟩ := hR i x hx
    obtain ⟨b, ys, bs, e2, r2, f2, c2, d2⟩ := hR j y hy
    have hi := (List.getElem?_eq_some_iff.mp hx).1
    have hj := (List.getElem?_eq_some_iff.mp hy).1
    rw [rk_lt irr tr nt hi hj] at hQ
    exact keyLt_data (n := n) (by omega) (Reads.kept k _ _ _ (by unfold flat; exact f1) r1) (Reads.kept k _ _ _ (by unfold flat; exact f2) r2) c1 c2 d1 d2 (hlt i j _ _ e1 e2) (fun _ d e ds' es' h1 h2 => by cases h1; cases h2; exact ⟨a, b, rfl, rfl⟩) hQ
  · obtain ⟨fs, ht⟩ := tups_of (s := s) (vs := vs) fun v hv => by
      obtain ⟨i, hi⟩ := List.mem_iff_getElem?.mp hv
      obtain ⟨a, xs, as, _, r, _⟩ := hR i v hi
      exact ⟨a, xs, as, r⟩
    exact tup_kind (by rw [TupsOf.length ht]; omega) (TupsOf.keep k ht) hq
end
end LQ

namespace L2
open PySem PySem.Spec PyProof.Rows LQ
def rSortedD (K : PySem.W.Frag) : List V → Hp → VK → Prop := fun vs H Q => ∃ (a : Addr) (xs : List V) (ds : List PyData) (kf : PyData → List Int), vs = [.ref a] ∧ SqL K H a xs ∧ DpAll K H xs ds ∧ Keyd kf ds ∧ (∀ d ∈ ds, ∃ (k : Int) (r : List PyData), d = .tuple (.int k :: r)) ∧ LQ.flatAll ds = true ∧ xs.length ≤ 6000 ∧
  ∀ (π : List Nat) (ys : List V) (p : Addr), π.Perm (List.range xs.length) → ys.map some = π.map (fun i => xs[i]?) → π.Pairwise (fun i j => lxL (kf (ds.getD j .none)) (kf (ds.getD i .none)) = false) → H p = none → Q (.ref p) (upd H p (.lst ys))
theorem lx_neg2 : ∀ a b c : List Int, lxL a c = true → lxL a b = true ∨ lxL b c = true
  | [], [], [], h => by cases h
  | [], [], _ :: _, h => .inr rfl
  | [], _ :: _, _, h => .inl rfl
  | _ :: _, _, [], h => by cases h
  | _ :: _, [], _ :: _, h => .inr rfl
  | a :: as, b :: bs, c :: cs, h => by
    rw [lxL] at h
    rw [lxL, lxL]
    split at h
    · rename_i e
      subst e
      by_cases e2 : a = b
      · subst e2; rw [if_pos rfl, if_pos rfl]; exact lx_neg2 as bs cs h
      · rw [if_neg e2, if_neg (fun z => e2 z.symm)]
        simp only [decide_eq_true_eq]; omega
    · rename_i e
      have h := of_decide_eq_true h
      by_cases e2 : a = b
      · subst e2; rw [if_neg e]; exact .inr (decide_eq_true h)
      · rw [if_neg e2]
        by_cases e3 : a < b
        · exact .inl (decide_eq_true e3)
        · refine .inr ?_
          rw [if_neg (by omega)]
          exact decide_eq_true (by omega)
theorem flatD_at {ds : List PyData} (h : LQ.flatAll ds = true) : ∀ d ∈ ds, LQ.flat d = true := by
  induction ds with
  | nil => intro d hd; cases hd
  | cons x xs ih =>
    unfold LQ.flatAll at h
    rw [Bool.and_eq_true] at h
    intro d hd
    rcases List.mem_cons.mp hd with rfl | hd
    · exact h.1
    · exact ih h.2 d hd
theorem call_sortedD {X : Cx} {j : Nat} (hr : Room j X.A) : CallR X (.builtin "sorted") (rSortedD X.K) := by
  intro pins s σ H vs us Q I r h
  obtain ⟨a, xs, ds, kf, rfl, hs, hd, ⟨k1, k2, k3⟩, htup, hflat, h6, q⟩ := h
  obtain ⟨its, rv, hl, _⟩ := I.list hs
  rw [Vals.ref1 r]
  obtain ⟨as, rr⟩ := Dp.readsAll I ds xs its hd rv
  have hu : X.A.units + 200 < cLine := by have := hr.un; omega
  have hlen : its.length = ds.length := SeqAt.ReadsAll.length _ _ _ rr
  have hlx : its.length = xs.length := (Paired.len rv).symm
  obtain ⟨lt, hlt⟩ : ∃ lt : Nat → Nat → Bool, lt = fun i j => lxL (kf (ds.getD i .none)) (kf (ds.getD j .none)) := ⟨_, rfl⟩
  have gm : ∀ i, i < its.length → ds.getD i .none ∈ ds := fun i hi => by rw [List.getD_eq_getElem?_getD, List.getElem?_eq_getElem (by omega)]; exact List.getElem_mem _
  have irr : ∀ i, i < its.length → lt i i = false := fun i _ => by rw [hlt]; exact lx_irrefl _
  have tr : ∀ i j k, i < its.length → j < its.length → k < its.length → lt i j = true → lt j k = true → lt i k = true := fun i j k _ _ _ h1 h2 => by rw [hlt] at h1 h2 ⊢; exact lx_trans _ _ _ h1 h2
  have nt : ∀ i j k, i < its.length → j < its.length → k < its.length → lt i k = true → lt i j = true ∨ lt j k = true := fun i j k _ _ _ h1 => by rw [hlt] at h1 ⊢; exact lx_neg2 _ _ _ h1
  refine LQ.sorted_data (vs := its) (n := 61) (lt := lt) (dss := ds.map fun d => match d with | .tuple xs => xs | _ => []) hl.isList (Nat.le_trans (show its.length ≤ 6000 by omega) (by decide)) (by omega) (fun i v hv => ?_) (fun i j xs ys e1 e2 => ?_) irr tr nt (fun out ⟨π, p1, p2, p3⟩ => ?_)
  · obtain ⟨hi, rfl⟩ := List.getElem?_eq_some_iff.mp hv
    obtain ⟨bs, r1⟩ := reads_at hi rr
    have m1 := gm i hi
    obtain ⟨k, t, e⟩ := htup _ m1
    have c1 := lay_at (j := i) k1
    have d1 := dep_at (j := i) k2
    have f1 := flatD_at hflat _ m1
    rw [e] at r1 c1 d1 f1
    refine ⟨k, t, bs, ?_, r1, by unfold LQ.flat at f1; exact f1, by unfold PyData.canLay0 at c1; exact c1, by unfold PyData.depth at d1; omega⟩
    rw [List.getElem?_map, List.getElem?_eq_getElem (by omega)]
    rw [List.getD_eq_getElem?_getD, List.getElem?_eq_getElem (by omega)] at e
    have e : ds[i]'(by omega) = .tuple (.int k :: t) := e
    rw [e]; rfl
  · have go : ∀ (i : Nat) (xs : List PyData), (ds.map fun d => match d with | .tuple xs => xs | _ => [])[i]? = some xs → ds.getD i .none = .tuple xs ∧ .tuple xs ∈ ds := fun i xs e => by
      rw [List.getElem?_map] at e
      obtain ⟨d, hd, e⟩ := Option.map_eq_some_iff.mp e
      have m := List.mem_of_getElem? hd
      obtain ⟨k, t, rfl⟩ := htup d m
      have e : PyData.int k :: t = xs := e
      subst e
      exact ⟨by rw [List.getD_eq_getElem?_getD, hd]; rfl, m⟩
    obtain ⟨g1, m1⟩ := go i xs e1
    obtain ⟨g2, m2⟩ := go j ys e2
    have := k3 _ m1 _ m2
    rw [ltD] at this
    rw [this, hlt]
    dsimp only
    rw [g1, g2]
  · obtain ⟨ep, he'⟩ := PyProof.Rows.sortedAll_at s.heap its out
    have hmem : ∀ i ∈ π, i < its.length := fun i hi => List.mem_range.mp (p1.mem_iff.mp hi)
    obtain ⟨ys, hys⟩ : ∃ ys : List V, ys = π.map fun i => (xs[i]?).getD .non := ⟨_, rfl⟩
    have hyl : ys.length = xs.length := by rw [hys, List.length_map, p1.length_eq, List.length_range, hlx]
    have hol : out.toList.length = π.length := by have := congrArg List.length p2; rwa [List.length_map, List.length_map] at this
    have hv : Vals ys out.toList := vals_of (by rw [hol, hys, List.length_map]) fun m v u h1 h2 => by
      rw [hys, List.getElem?_map] at h1
      obtain ⟨i, hi, rfl⟩ := Option.map_eq_some_iff.mp h1
      have e : (out.toList.map some)[m]? = (π.map fun i => its[i]?)[m]? := by rw [p2]
      rw [List.getElem?_map, List.getElem?_map, h2, hi] at e
      have e : some (some u) = some (its[i]?) := e
      injection e with e
      obtain ⟨x, hx, rel⟩ := Paired.at rv e.symm
      rw [hx]
      exact rel
    refine ⟨.ref _, upd H (s.heap.objs.size + 1) (.lst ys), I.laid (t' := s.toks) (fun _ _ => PyProof.Rows.sortedAll_old) (Nat.le_succ _) ⟨Nat.le_trans (show ys.length ≤ 6000 by omega) (by decide), out.toList, ep, hv, he'⟩, rfl, q π ys _ (by rw [← hlx]; exact p1) ?_ ?_ (I.hok.fresh (Nat.le_succ _))⟩
    · rw [hys, List.map_map]
      refine List.map_congr_left fun i hi => ?_
      have := hmem i hi
      show some ((xs[i]?).getD .non) = xs[i]?
      rw [List.getElem?_eq_getElem (by omega)]; rfl
    · refine List.Pairwise.imp_of_mem (fun {i j} hi hj hle => ?_) p3
      have := LQ.rk_lt irr tr nt (hmem j hj) (hmem i hi)
      rw [decide_eq_false (by omega)] at this
      rw [hlt] at this
      exact this.symm
end L2

namespace L2
open PySem PySem.Spec PyProof.Rows
def dSortedD : DR1 := fun xs μ Q => ∃ (x : DV) (ds : List PyData) (kf : PyData → List Int), xs = [x] ∧ its μ x = some (ds.map .d) ∧ Keyd kf ds ∧ (∀ d ∈ ds, ∃ (k : Int) (r : List PyData), d = .tuple (.int k :: r)) ∧ LQ.flatAll ds = true ∧ ds.length ≤ 6000 ∧
  ∀ es : List PyData, es.Perm ds → es.Pairwise (fun a b => lxL (kf b) (kf a) = false) → Q (.d (.list es)) μ
theorem dqAll_of {K : PySem.W.Frag} {F : Hp} : ∀ {ys : List V} {es : List PyData}, ys.length = es.length → (∀ (m : Nat) (v : V) (d : PyData), ys[m]? = some v → es[m]? = some d → Dq K F v d) → DqAll K F ys es
  | [], [], _, _ => .nil
  | [], _ :: _, h, _ => by simp at h
  | _ :: _, [], h, _ => by simp at h
  | y :: ys, e :: es, h, g => .cons (g 0 y e rfl rfl) (dqAll_of (by simpa using h) fun m v d h1 h2 => g (m + 1) v d (by simpa using h1) (by simpa using h2))
theorem range_getDs (ds : List PyData) : (List.range ds.length).map (fun i => ds.getD i .none) = ds := by
  refine List.ext_getElem? fun k => ?_
  rw [List.getElem?_map]
  by_cases hk : k < ds.length
  · rw [List.getElem?_range hk, List.getElem?_eq_getElem hk]
    show some (ds.getD k .none) = _
    rw [List.getD_eq_getElem?_getD, List.getElem?_eq_getElem hk]; rfl
  · rw [List.getElem?_eq_none (by simp; omega), List.getElem?_eq_none (by omega)]; rfl
theorem sb_sortedD {K : PySem.W.Frag} : SB K (rSortedD K) dSortedD := by
  intro p q Z vs xs μ F H QD Q rp rv lf h
  obtain ⟨x, ds, kf, rfl, e, hk, htup, hflat, h6, h⟩ := h
  cases rv with
  | cons r rr =>
    cases rr
    obtain ⟨a, ws, rfl, ha, rw'⟩ := rp.its r e
    have hq := RVs.all rw'
    have hlen : ws.length = ds.length := by have := Paired.len rw'; rwa [List.length_map] at this
    refine ⟨a, ws, ds, kf, rfl, SqL.of ha, DqAll.dp rp.fs _ _ hk.lay hq, hk, htup, hflat, by omega, fun π ys l p1 p2 p3 hl => ?_⟩
    have hmem : ∀ i ∈ π, i < ds.length := fun i hi => by have := List.mem_range.mp (p1.mem_iff.mp hi); omega
    obtain ⟨es, hes⟩ : ∃ es, es = π.map fun i => ds.getD i .none := ⟨_, rfl⟩
    have hyl : ys.length = π.length := by have := congrArg List.length p2; rwa [List.length_map, List.length_map] at this
    have hd : DqAll K F ys es := dqAll_of (by rw [hes, List.length_map, hyl]) fun m v d h1 h2 => by
      rw [hes, List.getElem?_map] at h2
      obtain ⟨i, hi, rfl⟩ := Option.map_eq_some_iff.mp h2
      have e : (ys.map some)[m]? = (π.map fun i => ws[i]?)[m]? := by rw [p2]
      rw [List.getElem?_map, List.getElem?_map, h1, hi] at e
      have e : some (some v) = some (ws[i]?) := e
      injection e with e
      have hi2 := hmem i (List.mem_of_getElem? hi)
      refine hq.at (i := i) ?_ e.symm
      rw [List.getD_eq_getElem?_getD, List.getElem?_eq_getElem hi2]; rfl
    obtain ⟨rp2, s2⟩ := rp.newF (o := .lst ys) hl
    refine lf _ _ _ _ _ s2 rp2 (rv_d (.lst upd_same (DqAll.same s2 _ _ hd))) (h es ?_ ?_)
    · have := p1.map fun i => ds.getD i .none
      rw [hlen, range_getDs] at this
      rw [hes]; exact this
    · rw [hes, List.pairwise_map]
      exact p3
end L2

namespace L2
open PySem PySem.Spec PyProof.Rows
theorem lx_anti : ∀ a b : List Int, lxL a b = false → lxL b a = false → a = b
  | [], [], _, _ => rfl
  | [], _ :: _, h, _ => by cases h
  | _ :: _, [], _, h => by cases h
  | a :: as, b :: bs, h1, h2 => by
    rw [lxL] at h1 h2
    by_cases e : a = b
    · subst e
      rw [if_pos rfl] at h1 h2
      rw [lx_anti as bs h1 h2]
    · rw [if_neg e] at h1
      rw [if_neg fun z => e z.symm] at h2
      have := of_decide_eq_false h1
      have := of_decide_eq_false h2
      omega
/-- two orders of the same data by distinct keys are one -/
theorem sorted_one {kf : PyData → List Int} : ∀ {es fs : List PyData}, es.Perm fs → es.Pairwise (fun a b => lxL (kf b) (kf a) = false) → fs.Pairwise (fun a b => lxL (kf b) (kf a) = false) → (∀ a ∈ es, ∀ b ∈ es, kf a = kf b → a = b) → es = fs
  | [], fs, h, _, _, _ => (List.nil_perm.mp h).symm
  | e :: es, [], h, _, _, _ => by have := h.length_eq; simp at this
  | e :: es, f :: fs, h, h1, h2, h3 => by
    rw [List.pairwise_cons] at h1 h2
    have mf : f ∈ e :: es := h.mem_iff.mpr (List.mem_cons_self ..)
    have me : e ∈ f :: fs := h.mem_iff.mp (List.mem_cons_self ..)
    have hef : e = f := by
      rcases List.mem_cons.mp mf with rfl | mf'
      · rfl
      · rcases List.mem_cons.mp me with rfl | me'
        · rfl
        · exact h3 e (List.mem_cons_self ..) f mf (lx_anti _ _ (h2.1 e me') (h1.1 f mf'))
    subst hef
    rw [sorted_one (List.perm_cons _ |>.mp h) h1.2 h2.2 fun a ha b hb => h3 a (List.mem_cons_of_mem _ ha) b (List.mem_cons_of_mem _ hb)]
end L2

namespace LQ
open PySem PyProof PyProof.Rows PyProof.Rows.G
section
variable {prog : Program} {w : World} {A : Around} {E : Value → Shared → Prop} {s : Shared}
end
end LQ

namespace L2
open PySem PySem.Spec PyProof.Rows
end L2

namespace L2
open PySem PySem.Spec PyProof.Rows
/-- the rest stays -/
def hStar (n i : Nat) (t : DGs) : DG := fun x δ μ Q => ∃ xs ds, its μ x = some xs ∧ i < n ∧ n ≤ xs.length + 1 ∧ xs.length ≤ 16384 ∧ unD ((xs.drop i).take (xs.length + 1 - n)) = some ds ∧
  t (xs.take i ++ [.d (.list ds)] ++ (xs.drop i).drop (xs.length + 1 - n)) δ μ Q
end L2

namespace L2
open PySem PySem.Spec PyProof.Rows
section
variable {X : Cx} {pins : List (Addr × Obj)} {σ : St} {H : Hp} {s : Shared} {A : Around} {E : Value → Shared → Prop} {a : Addr} {v : V} {u r : Value}
end
section
variable {X : Cx}
end
def DDc (xs : List DV) (g : DG) (t : DT) (k v : DE) (vs : List Nat) (δ : DSt) (μ : Mu) (Q : List (Key × V) → Mu → Prop) : Prop := ∃ I : Nat → List (Key × V) → Mu → Prop, I 0 [] μ ∧ (∀ i x acc μ, xs[i]? = some x → I i acc μ → g x (dwipe δ vs) μ fun δ2 μ2 => t δ2 μ2 fun b μ3 =>
    if b = true then k δ2 μ3 fun y μ4 => v δ2 μ4 fun z μ5 => ∃ kk vv, y = .d (kyD kk) ∧ toV z = some vv ∧ I (i + 1) (putK acc kk vv) μ5 else I (i + 1) acc μ3) ∧ ∀ acc μ, I xs.length acc μ → Q acc μ
def dDc (di : DI) (g : DG) (t : DT) (k v : DE) (vs : List Nat) : DE := fun δ μ Q => di δ μ fun xs μ1 => xs.length ≤ sizeLine ∧ DDc xs g t k v vs δ μ1 fun acc μ2 => ∀ l, μ2.o l = none → Q (.r l) (μ2.put l (.dc (.dK acc)))
section
variable {K : PySem.W.Frag} {p q : Addr} {Z : Hp} {μ : Mu} {F H : Hp}
end
end L2

namespace L2
open PySem PySem.Spec PyProof.Rows
abbrev DIL := DSt → Mu → (List DV → (Mu → Prop) → Mu → Prop) → Prop
def ItOkL (K : PySem.W.Frag) (p q : Addr) (J : It) (F : Hp) (Φ : Mu → Prop) (xs : List DV) : Prop := ∀ Z μ F' H i, Same F F' → Rp K p q Z μ F' H → Φ μ →
  (∀ x, xs[i]? = some x → J.go i H ∧ ∀ v H', J.yld i H v H' → ∃ F'', Same F' F'' ∧ Rp K p q Z μ F'' H' ∧ RV K p F'' v x) ∧ (xs.length ≤ i → J.stop i H)
def SIL (K : PySem.W.Frag) (ti : TI) (di : DIL) : Prop := ∀ p q Z σ δ μ F H (RD : List DV → (Mu → Prop) → Mu → Prop) (R : It → Hp → Prop), RS K p F σ δ → Rp K p q Z μ F H → (∀ J xs Φ μ1 F1 H1, Same F F1 → Rp K p q Z μ1 F1 H1 → ItOkL K p q J F1 Φ xs → RD xs Φ μ1 → R J H1) → di δ μ RD → ti σ H R
def DFoW (xs : List DV) (Φ : Mu → Prop) (g : DG) (b : DS) (D : DEnds) (δ : DSt) (μ : Mu) : Prop := ∃ I : Nat → DSt → Mu → Prop, I 0 δ μ ∧ (∀ i δ μ, I i δ μ → Φ μ) ∧ (∀ i x δ μ, xs[i]? = some x → I i δ μ → g x δ μ fun δ2 μ2 => b { D with nx := FgS (I (i + 1)), ct := FgS (I (i + 1)), bk := D.nx } δ2 μ2) ∧ ∀ δ μ, I xs.length δ μ → D.nx δ μ
def dForW (di : DIL) (g : DG) (b : DS) : DS := fun D δ μ => di δ μ fun xs Φ μ1 => DFoW xs Φ g b D δ μ1
def DLcW (xs : List DV) (Φ : Mu → Prop) (g : DG) (t : DT) (e : DE) (vs : List Nat) (δ : DSt) (μ : Mu) (Q : List DV → Mu → Prop) : Prop := ∃ I : Nat → List DV → Mu → Prop, I 0 [] μ ∧ (∀ i acc μ, I i acc μ → Φ μ) ∧ (∀ i x acc μ, xs[i]? = some x → I i acc μ → g x (dwipe δ vs) μ fun δ2 μ2 => t δ2 μ2 fun b μ3 => if b = true then e δ2 μ3 fun y μ4 => I (i + 1) (acc ++ [y]) μ4 else I (i + 1) acc μ3) ∧ ∀ acc μ, I xs.length acc μ → Q acc μ
def dLcW (O : Bool) (di : DIL) (g : DG) (t : DT) (e : DE) (vs : List Nat) : DE := fun δ μ Q => di δ μ fun xs Φ μ1 => xs.length ≤ sizeLine ∧ DLcW xs Φ g t e vs δ μ1 fun acc μ2 => if O = true then ∀ l, μ2.o l = none → Q (.r l) (μ2.put l (.own acc)) else ∃ ds, unD acc = some ds ∧ Q (.d (.list ds)) μ2
theorem se_lcW {K : PySem.W.Frag} {O : Bool} {ti : TI} {di : DIL} {g : TG} {dg : DG} {tt : TT} {dt : DT} {te : TE} {de : DE} {vs : List Nat} (hi : SIL K ti di) (hg : SG K g dg) (hw : GW g vs) (ht : ST K tt dt) (he : SE K te de) : SE K (tLc ti g tt te vs) (dLcW O di dg dt de vs) := by
  intro p q Z σ δ μ F H QD Q rs rp lf h
  refine hi p q Z σ δ μ F H _ _ rs rp (fun J xs Φ μ1 F1 H1 s1 rp1 ok h1 => ?_) h
  obtain ⟨hsz, I, h0, keep, turn, fin⟩ := h1
  intro D hD
  have zD : Z D = none := rp1.zs.free hD
  refine ⟨fun i m H' => m = xs.length - i ∧ i ≤ xs.length ∧ ∃ us acc μ' F', Same F1 F' ∧ Rp K p q (upd Z D (.lst us)) μ' F' H' ∧ RVs K p F' us acc ∧ acc.length ≤ i ∧ I i acc μ', ⟨xs.length, rfl, Nat.zero_le _, [], [], μ1, F1, Same.refl _, rp1.frame hD, .nil, Nat.le_refl _, h0⟩, ?_⟩
  rintro i m H2 ⟨rfl, hi, us, acc, μ2, F2, s2, rp2, rv2, la, h2⟩
  obtain ⟨o1, o2⟩ := ok _ μ2 F2 H2 i s2 rp2 (keep _ _ _ h2)
  by_cases hlt : i < xs.length
  · obtain ⟨go, yl⟩ := o1 xs[i] (List.getElem?_eq_getElem hlt)
    refine .inr ⟨go, fun H' => ∃ us acc μ' F', Same F1 F' ∧ Rp K p q (upd Z D (.lst us)) μ' F' H' ∧ RVs K p F' us acc ∧ acc.length ≤ i + 1 ∧ I (i + 1) acc μ', fun H' x => ⟨xs.length - (i + 1), by omega, rfl, hlt, x⟩, fun v H3 hy => ?_⟩
    obtain ⟨F3, s3, rp3, rv3⟩ := yl v H3 hy
    have rsw : RS K p F3 (wipe σ vs) (dwipe δ vs) := (rs_wipe ((rs.same s1).same s2) vs).same s3
    refine GW.use hw ?_
    refine hg p q (upd Z D (.lst us)) v _ (wipe σ vs) (dwipe δ vs) μ2 F3 H3 _ _ rsw rp3 rv3 ?_ (turn i _ acc μ2 (List.getElem?_eq_getElem hlt) h2)
    intro σ4 δ4 μ4 F4 H4 s4 rs4 rp4 h4
    refine ht p q _ σ4 δ4 μ4 F4 H4 _ _ rs4 rp4 (fun b μ5 F5 H5 s5 rp5 h5 => ?_) h4
    have sb : Same F1 F5 := ((s2.trans s3).trans s4).trans s5
    have rv5 : RVs K p F5 us acc := RVs.same ((s3.trans s4).trans s5) rv2
    cases b with
    | false => rw [if_neg Bool.false_ne_true] at h5 ⊢; exact ⟨us, acc, μ5, F5, sb, rp5, rv5, Nat.le_succ_of_le la, h5⟩
    | true =>
      rw [if_pos rfl] at h5 ⊢
      refine he p q _ σ4 δ4 μ5 F5 H5 _ _ (rs4.same s5) rp5 (fun w y μ6 F6 H6 s6 rp6 rv6 h6 => ?_) h5
      refine ⟨us, rp6.at_frame, ?_, us ++ [w], acc ++ [y], μ6, F6, sb.trans s6, rp6.reframe, Paired.app (RVs.same s6 rv5) (.cons rv6 .nil), by rw [List.length_append]; exact Nat.add_le_add_right la 1, h6⟩
      rw [Paired.len rv5]; omega
  · have e : i = xs.length := by omega
    subst e
    refine .inl ⟨o2 (Nat.le_refl _), ?_⟩
    have hf := fin _ _ h2
    cases O with
    | true =>
      rw [if_pos rfl] at hf
      exact lf _ _ _ _ _ (s1.trans s2) (rp2.frameO zD rv2) rv_r (hf D (rp2.zf _ _ upd_same).2.1)
    | false =>
      rw [if_neg Bool.false_ne_true] at hf
      obtain ⟨ds, e, hf⟩ := hf
      rw [unD_some e] at rv2
      obtain ⟨rp3, s3⟩ := rp2.frameF zD
      exact lf _ _ _ _ _ ((s1.trans s2).trans s3) rp3 (rv_d (.lst upd_same (DqAll.same s3 _ _ (RVs.all rv2)))) hf
def DDcW (xs : List DV) (Φ : Mu → Prop) (g : DG) (t : DT) (k v : DE) (vs : List Nat) (δ : DSt) (μ : Mu) (Q : List (Key × V) → Mu → Prop) : Prop := ∃ I : Nat → List (Key × V) → Mu → Prop, I 0 [] μ ∧ (∀ i acc μ, I i acc μ → Φ μ) ∧ (∀ i x acc μ, xs[i]? = some x → I i acc μ → g x (dwipe δ vs) μ fun δ2 μ2 => t δ2 μ2 fun b μ3 =>
    if b = true then k δ2 μ3 fun y μ4 => v δ2 μ4 fun z μ5 => ∃ kk vv, y = .d (kyD kk) ∧ toV z = some vv ∧ I (i + 1) (putK acc kk vv) μ5 else I (i + 1) acc μ3) ∧ ∀ acc μ, I xs.length acc μ → Q acc μ
def dDcW (di : DIL) (g : DG) (t : DT) (k v : DE) (vs : List Nat) : DE := fun δ μ Q => di δ μ fun xs Φ μ1 => xs.length ≤ sizeLine ∧ DDcW xs Φ g t k v vs δ μ1 fun acc μ2 => ∀ l, μ2.o l = none → Q (.r l) (μ2.put l (.dc (.dK acc)))
def ksI (kvs : List (Key × V)) : List DV := kvs.map fun p => .d (kyD p.1)
def jKeys (e : DE) : DIL := fun δ μ R => e δ μ fun x μ1 => ∃ l od kvs, x = .r l ∧ μ1.o l = some (.dc (.frz od (.dK kvs))) ∧ R (ksI kvs) (fun μ' => μ'.o l = some (.dc (.frz od (.dK kvs)))) μ1
theorem kv_rv {K : PySem.W.Frag} {p : Addr} {F : Hp} {k : Key} : RV K p F (kV k) (.d (kyD k)) := by
  cases k with
  | inl i => exact rv_int
  | inr s => exact rv_str
theorem si_keys {K : PySem.W.Frag} {te : TE} {de : DE} (he : SE K te de) : SIL K (iKeys te) (jKeys de) := by
  intro p q Z σ δ μ F H RD R rs rp lf h
  refine he p q Z σ δ μ F H _ _ rs rp (fun v x μ1 F1 H1 s1 rp1 rv1 h1 => ?_) h
  obtain ⟨l, od, kvs, rfl, e, h1⟩ := h1
  cases rv1
  refine ⟨l, od, rfl, .inl ⟨kvs, (rp1.dc _ _ e).2.2.2, lf _ _ _ _ _ _ s1 rp1 (fun Z' μ' F' H' i s' rp' hΦ => ?_) h1⟩⟩
  have hd := (rp'.dc _ _ hΦ).2.2.2
  refine ⟨fun x hx => ?_, fun hl => ⟨hd, by unfold ksI at hl; rwa [List.length_map] at hl⟩⟩
  unfold ksI at hx
  rw [List.getElem?_map] at hx
  obtain ⟨kv, hkv, rfl⟩ := Option.map_eq_some_iff.mp hx
  refine ⟨⟨hd, (List.getElem?_eq_some_iff.mp hkv).1⟩, fun w H2 hy => ?_⟩
  obtain ⟨rfl, k, v, e2, rfl⟩ := hy
  rw [hkv] at e2
  cases e2
  exact ⟨F', Same.refl _, rp', kv_rv⟩
/-- while d is held -/
def dLockE (i : Nat) (de : DE) : DE := fun δ μ Q => ∃ l kvs, δ[i]? = some (some (.r l)) ∧ μ.o l = some (.dc (.dK kvs)) ∧ ∀ od, de δ (μ.put l (.dc (.frz od (.dK kvs)))) fun x μ1 => μ1.o l = some (.dc (.frz od (.dK kvs))) ∧ Q x (μ1.put l (.dc (.dK kvs)))
theorem se_lock {K : PySem.W.Frag} {i : Nat} {te : TE} {de : DE} (he : SE K te de) : SE K (tLockE te) (dLockE i de) := by
  intro p q Z σ δ μ F H QD Q rs rp lf h
  obtain ⟨l, kvs, ei, e, h⟩ := h
  refine ⟨l, .dK kvs, (rp.dc _ _ e).2.2.2, trivial, fun od => ?_⟩
  refine he p q Z σ δ _ F _ _ _ rs (rp.setD (o' := .frz od (.dK kvs)) e) (fun v x μ1 F1 H1 s1 rp1 rv1 h1 => ?_) (h od)
  obtain ⟨e1, h1⟩ := h1
  refine ⟨(rp1.dc _ _ e1).2.2.2, ?_⟩
  exact lf _ _ _ _ _ s1 (rp1.setD (o' := .dK kvs) e1) rv1 h1
def dLockS (i : Nat) (ds : DS) : DS := fun D δ μ => ∃ l kvs, δ[i]? = some (some (.r l)) ∧ μ.o l = some (.dc (.dK kvs)) ∧ ∀ od, ds
  ⟨fun δ' μ1 => μ1.o l = some (.dc (.frz od (.dK kvs))) ∧ D.nx δ' (μ1.put l (.dc (.dK kvs))), fun x μ1 => μ1.o l = some (.dc (.frz od (.dK kvs))) ∧ D.rt x (μ1.put l (.dc (.dK kvs))), fun δ' μ1 => μ1.o l = some (.dc (.frz od (.dK kvs))) ∧ D.bk δ' (μ1.put l (.dc (.dK kvs))), fun δ' μ1 => μ1.o l = some (.dc (.frz od (.dK kvs))) ∧ D.ct δ' (μ1.put l (.dc (.dK kvs)))⟩
  δ (μ.put l (.dc (.frz od (.dK kvs))))
/-- a dict held or not, with numbers and texts as keys -/
def HasX (μ : Mu) (l : Addr) (y : DV) (r : Option V) : Prop := ∃ kvs k, (μ.o l = some (.dc (.dK kvs)) ∨ ∃ od, μ.o l = some (.dc (.frz od (.dK kvs)))) ∧ y = .d (kyD k) ∧ r = valV kvs k
/-- d[y], d held or not -/
def dDGetX (dd dy : DE) : DE := fun δ μ Q => dd δ μ fun x μ1 => dy δ μ1 fun y μ2 => ∃ l v, x = .r l ∧ HasX μ2 l y (some v) ∧ Pl v = true ∧ Q (vD v) μ2
section
variable {K : PySem.W.Frag}
/-- d.get(y) -/
def dDGet1 (dd dy : DE) : DE := fun δ μ Q => dd δ μ fun x μ1 => ∃ l kvs, x = .r l ∧ μ1.o l = some (.dc (.dK kvs)) ∧ dy δ μ1 fun y μ2 => ∃ k, μ2.o l = some (.dc (.dK kvs)) ∧ y = .d (kyD k) ∧ Pl ((valV kvs k).getD .non) = true ∧ Q (vD ((valV kvs k).getD .non)) μ2
theorem se_dget1 {ty td : TE} {dy dd : DE} (hd : SE K td dd) (hy : SE K ty dy) : SE K (tDGet1 td ty) (dDGet1 dd dy) := by
  intro p q Z σ δ μ F H QD Q rs rp lf h
  refine hd p q Z σ δ μ F H _ _ rs rp (fun u x μ1 F1 H1 s1 rp1 rv1 h1 => ?_) h
  obtain ⟨l, kvs, rfl, e, h1⟩ := h1
  cases rv1
  refine ⟨l, rfl, .inl ⟨kvs, .inl (rp1.dc _ _ e).2.2.2⟩, ?_⟩
  refine hy p q Z σ δ μ1 F1 H1 _ _ (rs.same s1) rp1 (fun w y μ2 F2 H2 s2 rp2 rv2 h2 => ?_) h1
  obtain ⟨k, e2, rfl, hp, h2⟩ := h2
  rw [ky_rv rv2]
  exact ⟨valV kvs k, .k (rp2.dc _ _ e2).2.2.2, lf _ _ _ _ _ (s1.trans s2) rp2 (pl_rv hp) h2⟩
/-- d.get(y, z) -/
def dDGet2 (dd dy dz : DE) : DE := fun δ μ Q => dd δ μ fun x μ1 => ∃ l kvs, x = .r l ∧ μ1.o l = some (.dc (.dK kvs)) ∧ dy δ μ1 fun y μ2 => dz δ μ2 fun z μ3 => ∃ k zv, μ3.o l = some (.dc (.dK kvs)) ∧ y = .d (kyD k) ∧ toV z = some zv ∧ Pl ((valV kvs k).getD zv) = true ∧ Q (vD ((valV kvs k).getD zv)) μ3
/-- d[y] op= z, numbers -/
def dDAug (dd dy dz : DE) (f : Int → Int → Int) : DS := fun D δ μ => dd δ μ fun x μ1 => dy δ μ1 fun y μ2 => ∃ l kvs k i, x = .r l ∧ μ2.o l = some (.dc (.dK kvs)) ∧ y = .d (kyD k) ∧ valV kvs k = some (.int i) ∧ dz δ μ2 fun z μ3 => ∃ j, z = .d (.int j) ∧ μ3.o l = some (.dc (.dK kvs)) ∧ kvs.length < sizeLine ∧ D.nx δ (μ3.put l (.dc (.dK (putK kvs k (.int (f i j))))))
def pK (ps : List (Key × Key)) : List DV := ps.map fun q => .d (.tuple [kyD q.1, kyD q.2])
def kvK (ps : List (Key × Key)) : List (Key × V) := ps.map fun q => (q.1, kV q.2)
def dDictO : DR1 := fun xs μ Q => ∃ x ps, xs = [x] ∧ its μ x = some (pK ps) ∧ ∀ l, μ.o l = none → Q (.r l) (μ.put l (.dc (.dK (mergeK [] (kvK ps)))))
end
end L2

namespace L2
open PySem PySem.Spec PyProof.Rows
theorem merge_snoc (kvs ms : List (Key × V)) (m : Key × V) : mergeK kvs (ms ++ [m]) = putK (mergeK kvs ms) m.1 m.2 := by
  unfold mergeK; rw [List.foldl_append]; rfl
theorem DDc.pure {α : Type} {f : α → DV} {xs : List α} {g : DG} {t : DT} {k v : DE} {vs : List Nat} {δ : DSt} {μ : Mu} {Q : List (Key × V) → Mu → Prop} (kf : α → Key × V)
    (hs : ∀ (i : Nat) (x : α) (acc : List (Key × V)) (P : List (Key × V) → Mu → Prop), xs[i]? = some x → P (putK acc (kf x).1 (kf x).2) μ → g (f x) (dwipe δ vs) μ fun δ2 μ2 => t δ2 μ2 fun b μ3 => if b = true then k δ2 μ3 fun y μ4 => v δ2 μ4 fun z μ5 => ∃ kk vv, y = .d (kyD kk) ∧ toV z = some vv ∧ P (putK acc kk vv) μ5 else P acc μ3)
    (hd : Q (mergeK [] (xs.map kf)) μ) : DDc (xs.map f) g t k v vs δ μ Q := by
  refine ⟨fun i acc μ' => μ' = μ ∧ acc = mergeK [] ((xs.take i).map kf), ⟨rfl, rfl⟩, ?_, ?_⟩
  · rintro i y acc μ' hy ⟨rfl, rfl⟩
    rw [List.getElem?_map] at hy
    obtain ⟨z, hz, rfl⟩ := Option.map_eq_some_iff.mp hy
    refine hs i z _ (fun acc μ3 => μ3 = μ' ∧ acc = mergeK [] ((xs.take (i + 1)).map kf)) hz ⟨rfl, ?_⟩
    rw [take_next hz, List.map_append, List.map_singleton, merge_snoc]
  · rintro acc μ' ⟨rfl, rfl⟩
    rw [List.length_map, List.take_length]; exact hd
section
variable {α : Type}
def inso (le : α → α → Bool) (a : α) : List α → List α
  | [] => [a]
  | b :: r => if le a b then a :: b :: r else b :: inso le a r
def isrt (le : α → α → Bool) : List α → List α
  | [] => []
  | a :: r => inso le a (isrt le r)
theorem inso_perm (le : α → α → Bool) (a : α) : ∀ r : List α, (inso le a r).Perm (a :: r)
  | [] => .refl _
  | b :: r => by
    unfold inso
    split
    · exact .refl _
    · exact ((inso_perm le a r).cons b).trans (.swap a b r)
theorem isrt_perm (le : α → α → Bool) : ∀ r : List α, (isrt le r).Perm r
  | [] => .refl _
  | a :: r => (inso_perm le a _).trans ((isrt_perm le r).cons a)
theorem inso_up {le : α → α → Bool} (tr : ∀ a b c, le a b = true → le b c = true → le a c = true) (tot : ∀ a b, le a b = false → le b a = true) (a : α) : ∀ r : List α, r.Pairwise (fun x y => le x y = true) → (inso le a r).Pairwise (fun x y => le x y = true)
  | [], _ => by simp [inso]
  | b :: r, h => by
    rw [List.pairwise_cons] at h
    unfold inso
    split
    · rename_i hab
      rw [List.pairwise_cons, List.pairwise_cons]
      refine ⟨fun x hx => ?_, h.1, h.2⟩
      rcases List.mem_cons.mp hx with rfl | hx
      · exact hab
      · exact tr _ _ _ hab (h.1 x hx)
    · rename_i hab
      rw [List.pairwise_cons]
      refine ⟨fun x hx => ?_, inso_up tr tot a r h.2⟩
      rcases List.mem_cons.mp ((inso_perm le a r).mem_iff.mp hx) with rfl | hx
      · exact tot _ _ (by simpa using hab)
      · exact h.1 x hx
theorem isrt_up {le : α → α → Bool} (tr : ∀ a b c, le a b = true → le b c = true → le a c = true) (tot : ∀ a b, le a b = false → le b a = true) : ∀ r : List α, (isrt le r).Pairwise (fun x y => le x y = true)
  | [] => .nil
  | a :: r => inso_up tr tot a _ (isrt_up tr tot r)
end
abbrev Gp := Nat × List Nat
def hd0 (g : Gp) : Nat := g.2.headD 0
def gle (a b : Gp) : Bool := decide (a.1 < b.1) || (decide (a.1 = b.1) && decide (hd0 a ≤ hd0 b))
def nle (a b : Nat) : Bool := decide (a ≤ b)
theorem nle_tr (a b c : Nat) (h1 : nle a b = true) (h2 : nle b c = true) : nle a c = true := by
  simp only [nle, decide_eq_true_eq] at *
  omega
theorem nle_tot (a b : Nat) (h1 : nle a b = false) : nle b a = true := by
  simp only [nle, decide_eq_true_eq, decide_eq_false_iff_not] at *
  omega
def srtG (gs : List Gp) : List Gp := isrt gle gs
def srtN (ns : List Nat) : List Nat := isrt nle ns
def mrg (a b : Gp) : Gp := (a.1 + b.1, srtN (a.2 ++ b.2))
/-- groups: signs rise within one, none is in two -/
structure GOk (gs : List Gp) : Prop where
  ne : ∀ g ∈ gs, g.2 ≠ []
  up : ∀ g ∈ gs, g.2.Pairwise (· < ·)
  dj : gs.Pairwise (fun a b => ∀ x ∈ a.2, x ∉ b.2)
  bd : ∀ g ∈ gs, ∀ x ∈ g.2, x ≤ 511
theorem GOk.perm {gs gs' : List Gp} (h : GOk gs) (p : gs'.Perm gs) : GOk gs' :=
  ⟨fun g hg => h.ne g (p.mem_iff.mp hg), fun g hg => h.up g (p.mem_iff.mp hg), (p.pairwise_iff (R := fun a b : Gp => ∀ x ∈ a.2, x ∉ b.2) fun {x y} z u hu hv => z u hv hu).mpr h.dj, fun g hg => h.bd g (p.mem_iff.mp hg)⟩
theorem srtN_perm (ns : List Nat) : (srtN ns).Perm ns := isrt_perm _ _
theorem srtG_perm (gs : List Gp) : (srtG gs).Perm gs := isrt_perm _ _
theorem srtN_up (ns : List Nat) : (srtN ns).Pairwise (fun a b => nle a b = true) := isrt_up nle_tr nle_tot _
theorem lt_of_le_ne : ∀ {ns : List Nat}, ns.Pairwise (fun a b => nle a b = true) → ns.Nodup → ns.Pairwise (· < ·)
  | [], _, _ => .nil
  | n :: ns, h1, h2 => by
    rw [List.pairwise_cons] at h1 ⊢
    rw [List.nodup_cons] at h2
    refine ⟨fun x hx => ?_, lt_of_le_ne h1.2 h2.2⟩
    have a := h1.1 x hx
    have b : n ≠ x := by rintro rfl; exact h2.1 hx
    simp only [nle, decide_eq_true_eq] at a
    omega
theorem nodup_of_lt {ns : List Nat} (h : ns.Pairwise (· < ·)) : ns.Nodup := h.imp fun {a b} z => by omega
theorem GOk.mrg {a b : Gp} {r : List Gp} (h : GOk (a :: b :: r)) : GOk (r ++ [mrg a b]) := by
  have hdj := h.dj
  rw [List.pairwise_cons, List.pairwise_cons] at hdj
  obtain ⟨d1, d2, d3⟩ := hdj
  have hm : ∀ x, x ∈ (L2.mrg a b).2 ↔ x ∈ a.2 ∨ x ∈ b.2 := fun x => by
    rw [show (L2.mrg a b).2 = srtN (a.2 ++ b.2) from rfl, (srtN_perm _).mem_iff, List.mem_append]
  have ha := h.up a (by simp)
  have hb := h.up b (by simp)
  refine ⟨fun g hg => ?_, fun g hg => ?_, ?_, fun g hg x hx => ?_⟩
  · rcases List.mem_append.mp hg with hg | hg
    · exact h.ne g (by simp [hg])
    · rw [List.mem_singleton] at hg; subst hg
      intro e
      have hna := h.ne a (by simp)
      cases e2 : a.2 with
      | nil => exact hna e2
      | cons x xs =>
        have := (hm x).mpr (.inl (by rw [e2]; simp))
        rw [e] at this; cases this
  · rcases List.mem_append.mp hg with hg | hg
    · exact h.up g (by simp [hg])
    · rw [List.mem_singleton] at hg; subst hg
      refine lt_of_le_ne (srtN_up _) ?_
      refine ((srtN_perm (a.2 ++ b.2)).nodup_iff).mpr ?_
      rw [List.nodup_append]
      exact ⟨nodup_of_lt ha, nodup_of_lt hb, fun x hx y hy e => d1 b (by simp) x hx (e ▸ hy)⟩
  · rw [List.pairwise_append]
    refine ⟨d3, by simp, fun g hg m hmm x hx => ?_⟩
    rw [List.mem_singleton] at hmm; subst hmm
    rw [hm x]
    rintro (z | z)
    · exact d1 g (by simp [hg]) x z hx
    · exact d2 g hg x z hx
  · rcases List.mem_append.mp hg with hg | hg
    · exact h.bd g (by simp [hg]) x hx
    · rw [List.mem_singleton] at hg; subst hg
      rcases (hm x).mp hx with z | z
      · exact h.bd a (by simp) x z
      · exact h.bd b (by simp) x z
theorem GOk.step {a b : Gp} {r : List Gp} (h : GOk (a :: b :: r)) : GOk (srtG (r ++ [L2.mrg a b])) := h.mrg.perm (srtG_perm _)
theorem GOk.tail {a : Gp} {r : List Gp} (h : GOk (a :: r)) : GOk r :=
  ⟨fun g hg => h.ne g (by simp [hg]), fun g hg => h.up g (by simp [hg]), (List.pairwise_cons.mp h.dj).2, fun g hg => h.bd g (by simp [hg])⟩
theorem hd0_mem {g : Gp} (h : g.2 ≠ []) : hd0 g ∈ g.2 := by
  unfold hd0
  cases e : g.2 with
  | nil => exact absurd e h
  | cons x xs => simp
theorem GOk.one : ∀ {gs : List Gp}, GOk gs → ∀ a ∈ gs, ∀ b ∈ gs, hd0 a = hd0 b → a = b
  | [], _, a, ha, _, _, _ => by cases ha
  | g :: gs, h, a, ha, b, hb, e => by
    have hdj := List.pairwise_cons.mp h.dj
    rcases List.mem_cons.mp ha with e1 | ha' <;> rcases List.mem_cons.mp hb with e2 | hb'
    · rw [e1, e2]
    · subst e1
      have m1 := hd0_mem (h.ne a ha)
      have m2 := hd0_mem (h.ne b hb)
      rw [← e] at m2
      exact absurd m2 (hdj.1 b hb' _ m1)
    · subst e2
      have m1 := hd0_mem (h.ne a ha)
      have m2 := hd0_mem (h.ne b hb)
      rw [e] at m1
      exact absurd m1 (hdj.1 a ha' _ m2)
    · exact h.tail.one a ha' b hb' e
theorem pw_mem {α : Type} {R S : α → α → Prop} : ∀ {xs : List α}, (∀ a ∈ xs, ∀ b ∈ xs, R a b → S a b) → xs.Pairwise R → xs.Pairwise S
  | [], _, _ => .nil
  | x :: xs, h, p => by
    rw [List.pairwise_cons] at p ⊢
    exact ⟨fun y hy => h x (by simp) y (by simp [hy]) (p.1 y hy), pw_mem (fun a ha b hb => h a (by simp [ha]) b (by simp [hb])) p.2⟩
def tot (gs : List Gp) : Nat := (gs.map fun g => g.2.length).sum
structure ROw (m : Nat) (r : List Nat × List Nat) : Prop where
  ln : r.1.length + r.2.length ≤ m
  b1 : ∀ x ∈ r.1, x ≤ 511
  b2 : ∀ x ∈ r.2, x ≤ 511
  n1 : r.1 ≠ []
  n2 : r.2 ≠ []
theorem GOk.row {a b : Gp} {r : List Gp} (h : GOk (a :: b :: r)) {m : Nat} (ht : tot (a :: b :: r) ≤ m) : ROw m (a.2, b.2) := by
  refine ⟨?_, h.bd a (by simp), h.bd b (by simp), h.ne a (by simp), h.ne b (by simp)⟩
  unfold tot at ht
  simp only [List.map_cons, List.sum_cons] at ht
  show a.2.length + b.2.length ≤ m
  omega
def pC (p : Nat × Nat) : PyData := .tuple [.int p.1, .int p.2]
structure COk (cs : List (Nat × Nat)) : Prop where
  l1 : 1 ≤ cs.length
  l2 : cs.length ≤ 300
  up : (cs.map (·.1)).Pairwise (· < ·)
  bd : ∀ p ∈ cs, p.1 ≤ 511
  ct : ∀ p ∈ cs, p.2 ≤ 1000000000
def tb (ss : List Nat) (c : Nat → Nat) : List (Key × V) := ss.map fun s : Nat => (.inl (s : Int), .int (c s : Int))
theorem COk.nd {cs : List (Nat × Nat)} (h : COk cs) : (cs.map (·.1)).Nodup := nodup_of_lt h.up
end L2

namespace L2
open PySem PySem.Spec PyProof.Rows
section
variable {K : PySem.W.Frag} {p q : Addr} {Z : Hp} {F G H : Hp} {S : List Addr}
end
/-- an argument as the callee sees it -/
inductive Ln (μ : Mu) (S : List Addr) : DV → DV → Prop
  | dt {x : DV} {d : PyData} : Dt μ S x d → Ln μ S x (.d d)
  | pen : Ln μ S .pen .pen
abbrev LnAll (μ : Mu) (S : List Addr) : List DV → List DV → Prop := Paired (Ln μ S)
theorem LnAll.rvs {K : PySem.W.Frag} {p q : Addr} {Z : Hp} {F H : Hp} {S : List Addr} {μ : Mu} (r : Rp K p q Z μ F H) (fs : ∀ a ∈ S, F a = none) : ∀ {vs : List V} {xs ys : List DV}, LnAll μ S xs ys → RVs K p F vs xs → RVs K p (layF F H S) vs ys
  | _, _, _, .nil, h => by cases h; exact .nil
  | _, _, _, .cons g1 g2, h => by
    cases h with
    | cons h1 h2 =>
      refine .cons ?_ (LnAll.rvs r fs g2 h2)
      cases g1 with
      | dt g => exact Dt.lay r fs _ _ _ g h1
      | pen => exact h1
def dCallW (dp : DSp) (t : DA) : DE := fun δ μ Q => t δ μ fun xs μ1 => ∃ S ys, LnAll μ1 S xs ys ∧ OwS μ1 S ∧ dp ys (bare μ1) fun y μ2 =>
  (∃ r, y = .d r ∧ nl r = true ∧ Q (.d r) (μ1.at μ2.n)) ∨ ∃ l ds, y = .r l ∧ μ2.o l = some (.own (ds.map .d)) ∧ nlAll ds = true ∧ (μ1.o l = none → Q (.r l) ((μ1.at μ2.n).put l (.own (ds.map .d))))
end L2

namespace L2
open PySem PySem.Spec PyProof.Rows
theorem put_free {μ : Mu} {l a : Addr} {x : MO} (h : (μ.put l x).o a = none) : a ≠ l ∧ μ.o a = none := by
  have hne : a ≠ l := by rintro rfl; rw [Mu.put_same] at h; cases h
  exact ⟨hne, by rwa [Mu.put_ne hne] at h⟩
def CShl (i j : Int) : Prop := 0 ≤ j ∧ j ≤ 1000000 ∧ i.natAbs < 2 ^ 1000
theorem op_shlB {X : Cx} : OpR X (binaryOp .LShift) (rI CShl fun i j => .int (i * 2 ^ j.toNat)) := opI fun i j _ _ _ _ _ hc q => by
  refine lshift_int hc.1 ?_ q
  have h1 : Builtin.Int.intBits i ≤ 1000 := intBits_le_iff.mpr hc.2.2
  have h2 := hc.2.1
  have h3 : (2 : Int) ^ 27 = 134217728 := by decide
  omega
def ple (a b : Nat × Nat) : Bool := decide (a.1 < b.1) || (decide (a.1 = b.1) && decide (a.2 ≤ b.2))
theorem ple_tr (a b c : Nat × Nat) (h1 : ple a b = true) (h2 : ple b c = true) : ple a c = true := by
  simp only [ple, Bool.or_eq_true, Bool.and_eq_true, decide_eq_true_eq] at *
  omega
theorem ple_tot (a b : Nat × Nat) (h1 : ple a b = false) : ple b a = true := by
  simp only [ple, Bool.or_eq_true, Bool.and_eq_true, decide_eq_true_eq, Bool.or_eq_false_iff, Bool.and_eq_false_iff, decide_eq_false_iff_not] at *
  omega
def srtP (ps : List (Nat × Nat)) : List (Nat × Nat) := isrt ple ps
theorem srtP_perm (ps : List (Nat × Nat)) : (srtP ps).Perm ps := isrt_perm _ _
theorem srtP_up (ps : List (Nat × Nat)) : (srtP ps).Pairwise (fun a b => ple a b = true) := isrt_up ple_tr ple_tot _
theorem srtP_len (ps : List (Nat × Nat)) : (srtP ps).length = ps.length := (srtP_perm ps).length_eq
def kf2 : PyData → List Int
  | .tuple [.int a, .int b] => [a, b]
  | _ => []
theorem kf2_pC (p : Nat × Nat) : kf2 (pC p) = [(p.1 : Int), (p.2 : Int)] := rfl
theorem lay_pC (p : Nat × Nat) : (pC p).canLay0 = true ∧ (pC p).depth ≤ 2 ∧ LQ.flat (pC p) = true := by
  refine ⟨rfl, by unfold pC; rw [PyData.depth, PyData.depthAll, PyData.depthAll, PyData.depthAll, PyData.depth, PyData.depth]; decide, ?_⟩
  unfold pC
  unfold LQ.flat LQ.flatAll LQ.flatAll LQ.flatAll LQ.flat
  rfl
theorem lay_allP : ∀ ps : List (Nat × Nat), PyData.canLayAll0 (ps.map pC) = true ∧ PyData.depthAll (ps.map pC) ≤ 2 ∧ LQ.flatAll (ps.map pC) = true
  | [] => ⟨rfl, Nat.zero_le _, by rw [List.map_nil]; unfold LQ.flatAll; rfl⟩
  | g :: gs => by
    obtain ⟨h1, h2, h3⟩ := lay_allP gs
    obtain ⟨a1, a2, a3⟩ := lay_pC g
    refine ⟨?_, ?_, ?_⟩
    · rw [List.map_cons, PyData.canLayAll0, h1, a1]; rfl
    · rw [List.map_cons, PyData.depthAll]; exact Nat.max_le.mpr ⟨a2, h2⟩
    · rw [List.map_cons]; unfold LQ.flatAll; rw [h3, a3]; rfl
theorem keyd_pC (ps : List (Nat × Nat)) : Keyd kf2 (ps.map pC) := by
  obtain ⟨h1, h2, _⟩ := lay_allP ps
  refine ⟨h1, by omega, fun x hx y hy => ?_⟩
  obtain ⟨a, _, rfl⟩ := List.mem_map.mp hx
  obtain ⟨b, _, rfl⟩ := List.mem_map.mp hy
  rw [kf2_pC, kf2_pC]
  exact lt_two _ _ _ _
theorem up_pC (a b : Nat × Nat) (h : ple a b = true) : lxL (kf2 (pC b)) (kf2 (pC a)) = false := by
  rw [kf2_pC, kf2_pC, lxL]
  simp only [ple, Bool.or_eq_true, Bool.and_eq_true, decide_eq_true_eq] at h
  by_cases e : (b.1 : Int) = a.1
  · rw [if_pos e, lxL]
    by_cases e2 : (b.2 : Int) = a.2
    · rw [if_pos e2]; rfl
    · rw [if_neg e2]; exact decide_eq_false (by omega)
  · rw [if_neg e]; exact decide_eq_false (by omega)
theorem pC_inj {a b : Nat × Nat} (h : kf2 (pC a) = kf2 (pC b)) : a = b := by
  rw [kf2_pC, kf2_pC] at h
  injection h with h1 h2
  injection h2 with h2 _
  exact Prod.ext (by omega) (by omega)
theorem sort_pC {ps : List (Nat × Nat)} {es : List PyData} (p : es.Perm (ps.map pC)) (h : es.Pairwise (fun a b => lxL (kf2 b) (kf2 a) = false)) : es = (srtP ps).map pC := by
  refine sorted_one (kf := kf2) (p.trans ((srtP_perm ps).map pC).symm) h ?_ ?_
  · rw [List.pairwise_map]
    exact (srtP_up ps).imp fun {a b} z => up_pC a b z
  · intro a ha b hb e
    obtain ⟨a', _, rfl⟩ := List.mem_map.mp (p.mem_iff.mp ha)
    obtain ⟨b', _, rfl⟩ := List.mem_map.mp (p.mem_iff.mp hb)
    rw [pC_inj e]
theorem dSortedP {x : DV} {ps : List (Nat × Nat)} {μ : Mu} {Q : DQ} (hl : ps.length ≤ 6000) (e : its μ x = some ((ps.map pC).map .d)) (q : Q (.d (.list ((srtP ps).map pC))) μ) : dSortedD [x] μ Q := by
  refine ⟨x, ps.map pC, kf2, rfl, e, keyd_pC ps, fun d hd => ?_, (lay_allP ps).2.2, by rwa [List.length_map], fun es p h => ?_⟩
  · obtain ⟨g, _, rfl⟩ := List.mem_map.mp hd; exact ⟨_, _, rfl⟩
  · rw [sort_pC p h]; exact q
def fa (L : List Nat) : List Nat := L.foldl (fun acc s => if s ∈ acc then acc else acc ++ [s]) []
theorem DLcW.pure {α : Type} {f : α → DV} {xs : List α} {Φ : Mu → Prop} {g : DG} {t : DT} {e : DE} {vs : List Nat} {δ : DSt} {μ : Mu} {Q : List DV → Mu → Prop} (φ : α → DV) (hΦ : Φ μ) (hs : ∀ (i : Nat) (x : α) (P N : DQ), xs[i]? = some x → P (φ x) μ → g (f x) (dwipe δ vs) μ fun δ2 μ2 => t δ2 μ2 fun b μ3 => if b = true then e δ2 μ3 P else N (.d .none) μ3) (hd : Q (xs.map φ) μ) : DLcW (xs.map f) Φ g t e vs δ μ Q := by
  refine ⟨fun i acc μ' => μ' = μ ∧ acc = (xs.take i).map φ, ⟨rfl, rfl⟩, ?_, ?_, ?_⟩
  · rintro i acc μ' ⟨rfl, rfl⟩; exact hΦ
  · rintro i y acc μ' hy ⟨rfl, rfl⟩
    rw [List.getElem?_map] at hy
    obtain ⟨z, hz, rfl⟩ := Option.map_eq_some_iff.mp hy
    refine hs i z _ (fun _ μ3 => μ3 = μ' ∧ (xs.take i).map φ = (xs.take (i + 1)).map φ) hz ⟨rfl, ?_⟩
    rw [take_next hz, List.map_append]; rfl
  · rintro acc μ' ⟨rfl, rfl⟩
    rw [List.length_map, List.take_length]; exact hd
def cdg : List (Nat × Nat) → Nat → Nat → List (Nat × List Bool)
  | [], _, _ => []
  | p :: r, nx, ah => (p.2, btn (nx * 2 ^ (p.1 - ah)) p.1) :: cdg r (nx * 2 ^ (p.1 - ah) + 1) p.1
def swp (p : Nat × Nat) : Nat × Nat := (p.2, p.1)
def cds (fl : List (Nat × Nat)) : List (Nat × List Bool) := cdg (srtP (fl.map swp)) 0 0
def cdOf (fl : List (Nat × Nat)) (s : Nat) : List Bool := ((cds fl).lookup s).getD []
theorem cdg_fst : ∀ (r : List (Nat × Nat)) (nx ah : Nat), (cdg r nx ah).map (·.1) = r.map (·.2)
  | [], _, _ => rfl
  | p :: r, nx, ah => by rw [cdg, List.map_cons, cdg_fst r]; rfl
theorem cds_fst (fl : List (Nat × Nat)) : ((cds fl).map (·.1)).Perm (fl.map (·.1)) := by
  unfold cds
  rw [cdg_fst]
  have := (srtP_perm (fl.map swp)).map (·.2)
  rwa [List.map_map] at this
def kvC (cs : List (Nat × List Bool)) : List (Key × V) := cs.map fun p => (.inl (p.1 : Int), .str (bt p.2))
theorem kvC_val : ∀ {cs : List (Nat × List Bool)} {s : Nat}, s ∈ cs.map (·.1) → valV (kvC cs) (.inl (s : Int)) = some (.str (bt ((cs.lookup s).getD [])))
  | [], s, h => by cases h
  | (x, b) :: cs, s, h => by
    unfold kvC valV
    rw [List.map_cons, List.find?_cons, List.lookup_cons]
    by_cases e : x = s
    · subst e; simp
    · have e2 : ¬ ((Sum.inl (x : Int) : Key) = .inl (s : Int)) := fun z => e (by have := Sum.inl.inj z; omega)
      rw [decide_eq_false e2, show (s == x) = false from beq_eq_false_iff_ne.mpr (Ne.symm e)]
      rcases List.mem_cons.mp h with z | z
      · exact absurd z.symm e
      · exact kvC_val z
theorem kvC_put {cs : List (Nat × List Bool)} {s : Nat} {b : List Bool} (h : s ∉ cs.map (·.1)) : putK (kvC cs) (.inl (s : Int)) (.str (bt b)) = kvC (cs ++ [(s, b)]) := by
  unfold putK
  rw [if_neg]
  · unfold kvC; rw [List.map_append]; rfl
  · intro z
    obtain ⟨kv, hk, e⟩ := List.any_eq_true.mp z
    obtain ⟨p, hp, rfl⟩ := List.mem_map.mp hk
    have := Sum.inl.inj (of_decide_eq_true e)
    exact h (by rw [show s = p.1 by omega]; exact List.mem_map_of_mem hp)
theorem kvC_len (cs : List (Nat × List Bool)) : (kvC cs).length = cs.length := by unfold kvC; rw [List.length_map]
/-- how long codes are at most -/
theorem cdg_len {m : Nat} : ∀ (r : List (Nat × Nat)) (nx ah : Nat), (∀ p ∈ r, p.1 ≤ m) → ∀ q ∈ cdg r nx ah, q.2.length ≤ m
  | [], _, _, _, q, h => by cases h
  | p :: r, nx, ah, hm, q, h => by
    rw [cdg] at h
    rcases List.mem_cons.mp h with rfl | h
    · show (btn _ _).length ≤ m
      rw [btn_len]; exact hm p (by simp)
    · exact cdg_len r _ _ (fun x hx => hm x (by simp [hx])) q h
theorem lookup_mem {β : Type} : ∀ {cs : List (Nat × β)} {s : Nat} {b : β}, cs.lookup s = some b → (s, b) ∈ cs
  | [], _, _, h => by cases h
  | (x, c) :: cs, s, b, h => by
    rw [List.lookup_cons] at h
    by_cases e : s = x
    · subst e
      simp at h
      subst h; simp
    · rw [show (s == x) = false from beq_eq_false_iff_ne.mpr e] at h
      exact List.mem_cons_of_mem _ (lookup_mem h)
theorem cdOf_len {m : Nat} {fl : List (Nat × Nat)} (h : ∀ p ∈ fl, p.2 ≤ m) (s : Nat) : (cdOf fl s).length ≤ m := by
  unfold cdOf
  cases e : (cds fl).lookup s with
  | none => exact Nat.zero_le _
  | some b =>
    refine cdg_len _ _ _ (fun p hp => ?_) _ (lookup_mem e)
    obtain ⟨q, hq, rfl⟩ := List.mem_map.mp ((srtP_perm _).mem_iff.mp hp)
    exact h q hq
structure FlOk (fl : List (Nat × Nat)) : Prop where
  len : fl.length ≤ 300
  nd : (fl.map (·.1)).Nodup
  ln : ∀ p ∈ fl, p.2 ≤ 300
theorem cds_mem {fl : List (Nat × Nat)} {s : Nat} (h : s ∈ fl.map (·.1)) : s ∈ (cds fl).map (·.1) := (cds_fst fl).mem_iff.mpr h
theorem flat_len {m : Nat} : ∀ {bs : List (List Bool)}, (∀ b ∈ bs, b.length ≤ m) → bs.flatten.length ≤ m * bs.length
  | [], _ => Nat.zero_le _
  | b :: bs, h => by
    have := flat_len fun x hx => h x (List.mem_cons_of_mem b hx)
    have h0 := h b (by simp)
    rw [List.flatten_cons, List.length_append, List.length_cons, Nat.mul_add, Nat.mul_one]
    omega
end L2

namespace L2
open PySem PySem.Spec PyProof.Rows PySem.Calls
section
variable {X : Cx} {x : Str} {k : Nat} {ps ks : List Str} {sp : Sp} {BF : FuncData → Prop} {e : Expr} {es : List Expr} {kws : List Keyword} {t tk : TA} {p pos : Pos} {na nk : Nat} {sel : List (Sum Nat Df)} {te : TEX}
end
section
variable {K : PySem.W.Frag} {mg : Str → Option Value} {E : XK} {EX : DX}
def FgX (EX : DX) : DX := fun c fs μ => ∃ μ', Sub μ' μ ∧ EX c fs μ'
def dAsgX (dp : DSpX) (da : DA) (g : DG) (EX : DX) : DS := fun DD δ μ => da δ μ fun xs μ1 => dp xs μ1 (fun y μ2 => g y δ μ2 DD.nx) (FgX EX)
def dDropX (dp : DSpX) (da : DA) (EX : DX) : DS := fun DD δ μ => da δ μ fun xs μ1 => dp xs μ1 (fun _ μ2 => DD.nx δ μ2) EX
def dSetXK (dp : DSpX) (g : List DV → List DV → List DV) (da dk : DA) (i : Nat) (EX : DX) : DS := fun DD δ μ => da δ μ fun xs μ1 => dk δ μ1 fun ys μ2 => dp (g xs ys) μ2 (fun y μ3 => DD.nx (δ.set i (some y)) μ3) EX
def dDropXK (dp : DSpX) (g : List DV → List DV → List DV) (da dk : DA) (EX : DX) : DS := fun DD δ μ => da δ μ fun xs μ1 => dk δ μ1 fun ys μ2 => dp (g xs ys) μ2 (fun _ μ3 => DD.nx δ μ3) EX
end
end L2

namespace L2
open PySem PySem.Spec PyProof.Rows
theorem vl_app : ∀ a b : List Bool, vl (a ++ b) = vl a * 2 ^ b.length + vl b
  | [], b => by rw [List.nil_append]; show _ = vl [] * _ + _; rw [show vl [] = 0 from rfl]; omega
  | x :: a, b => by
    rw [List.cons_append, vl_cons, vl_cons, vl_app a b, List.length_append, Nat.pow_add, Nat.add_mul, Nat.mul_assoc]; omega
def po (b : List Bool) : Nat := vl b * 2 ^ (60 - b.length)
theorem po_prefix {a b : List Bool} (h : a <+: b) (hb : b.length ≤ 60) : po a ≤ po b ∧ po b < po a + 2 ^ (60 - a.length) := by
  obtain ⟨t, rfl⟩ := h
  rw [List.length_append] at hb
  unfold po
  rw [vl_app, List.length_append, Nat.add_mul]
  have e1 : vl a * 2 ^ t.length * 2 ^ (60 - (a.length + t.length)) = vl a * 2 ^ (60 - a.length) := by
    rw [Nat.mul_assoc, ← Nat.pow_add]; congr 2; omega
  have e2 : vl t * 2 ^ (60 - (a.length + t.length)) < 2 ^ (60 - a.length) := by
    calc vl t * 2 ^ (60 - (a.length + t.length)) < 2 ^ t.length * 2 ^ (60 - (a.length + t.length)) := Nat.mul_lt_mul_of_pos_right (vl_lt t) (Nat.pow_pos (by decide))
      _ = 2 ^ (60 - a.length) := by rw [← Nat.pow_add]; congr 1; omega
  rw [e1]
  omega
def krP (r : List (Nat × Nat)) : Nat := (r.map fun p => 2 ^ (60 - p.1)).sum
theorem cdg_po : ∀ (r : List (Nat × Nat)) (nx ah : Nat), r.Pairwise (fun a b => a.1 ≤ b.1) → (∀ p ∈ r, ah ≤ p.1 ∧ p.1 ≤ 60) → nx * 2 ^ (60 - ah) + krP r ≤ 2 ^ 60 →
    (∀ q ∈ cdg r nx ah, nx * 2 ^ (60 - ah) ≤ po q.2) ∧ (cdg r nx ah).Pairwise fun x y => po x.2 + 2 ^ (60 - x.2.length) ≤ po y.2
  | [], _, _, _, _, _ => ⟨fun _ h => (by cases h), List.Pairwise.nil⟩
  | p :: r, nx, ah, hp, hb, hk => by
    have hp0 := hb p (by simp)
    rw [List.pairwise_cons] at hp
    have e0 : nx * 2 ^ (p.1 - ah) * 2 ^ (60 - p.1) = nx * 2 ^ (60 - ah) := by
      rw [Nat.mul_assoc, ← Nat.pow_add]; congr 2; omega
    have hk2 : krP (p :: r) = 2 ^ (60 - p.1) + krP r := rfl
    obtain ⟨v, hv⟩ : ∃ v, v = nx * 2 ^ (p.1 - ah) := ⟨_, rfl⟩
    have e1 : (v + 1) * 2 ^ (60 - p.1) + krP r ≤ 2 ^ 60 := by
      rw [hv, Nat.add_mul, e0, Nat.one_mul]; omega
    have hvl : v < 2 ^ p.1 := by
      refine Nat.lt_of_not_le fun z => ?_
      have := Nat.mul_le_mul_right (2 ^ (60 - p.1)) (show 2 ^ p.1 + 1 ≤ v + 1 by omega)
      rw [Nat.add_mul, ← Nat.pow_add, show p.1 + (60 - p.1) = 60 by omega] at this
      have h1 : 0 < 2 ^ (60 - p.1) := Nat.pow_pos (by decide)
      omega
    obtain ⟨i1, i2⟩ := cdg_po r (v + 1) p.1 hp.2 (fun q hq => ⟨hp.1 q hq, (hb q (by simp [hq])).2⟩) e1
    have e2 : po (btn v p.1) = nx * 2 ^ (60 - ah) := by
      unfold po; rw [vl_btn hvl, btn_len, hv, e0]
    rw [cdg, ← hv]
    refine ⟨fun q hq => ?_, ?_⟩
    · rcases List.mem_cons.mp hq with rfl | hq
      · exact Nat.le_of_eq e2.symm
      · refine Nat.le_trans ?_ (i1 q hq)
        rw [← e0, ← hv]
        exact Nat.mul_le_mul_right _ (Nat.le_succ v)
    · rw [List.pairwise_cons]
      refine ⟨fun y hy => ?_, i2⟩
      have := i1 y hy
      show po (btn v p.1) + 2 ^ (60 - (btn v p.1).length) ≤ po y.2
      rw [e2, btn_len, ← e0, ← hv]
      rw [Nat.add_mul, Nat.one_mul] at this
      exact this
structure FlX (fl : List (Nat × Nat)) : Prop where
  ok : FlOk fl
  ln : ∀ p ∈ fl, 1 ≤ p.2 ∧ p.2 ≤ 60
  kr : (fl.map fun p => 2 ^ (60 - p.2)).sum ≤ 2 ^ 60
def PFree (cs : List (Nat × List Bool)) : Prop := cs.Pairwise fun x y => ¬ x.2 <+: y.2 ∧ ¬ y.2 <+: x.2
theorem cdg_mem : ∀ (r : List (Nat × Nat)) (nx ah : Nat), ∀ q ∈ cdg r nx ah, ∃ p ∈ r, q.1 = p.2 ∧ q.2.length = p.1
  | [], _, _, q, h => by cases h
  | p :: r, nx, ah, q, h => by
    rw [cdg] at h
    rcases List.mem_cons.mp h with rfl | h
    · exact ⟨p, by simp, rfl, btn_len _⟩
    · obtain ⟨p', h1, h2⟩ := cdg_mem r _ _ q h
      exact ⟨p', by simp [h1], h2⟩
theorem cds_mem2 {fl : List (Nat × Nat)} {q : Nat × List Bool} (h : q ∈ cds fl) : (q.1, q.2.length) ∈ fl := by
  obtain ⟨p, hp, h1, h2⟩ := cdg_mem _ _ _ q h
  obtain ⟨x, hx, rfl⟩ := List.mem_map.mp ((srtP_perm _).mem_iff.mp hp)
  rw [h1, h2]; exact hx
theorem FlX.bd {fl : List (Nat × Nat)} (h : FlX fl) {q : Nat × List Bool} (hq : q ∈ cds fl) : 1 ≤ q.2.length ∧ q.2.length ≤ 60 := h.ln _ (cds_mem2 hq)
theorem FlX.free {fl : List (Nat × Nat)} (h : FlX fl) : PFree (cds fl) := by
  have hs : (srtP (fl.map swp)).Pairwise fun a b => a.1 ≤ b.1 := (srtP_up _).imp fun {a b} z => by
    simp only [ple, Bool.or_eq_true, Bool.and_eq_true, decide_eq_true_eq] at z
    omega
  have hk : krP (srtP (fl.map swp)) ≤ 2 ^ 60 := by
    have e : krP (srtP (fl.map swp)) = (fl.map fun p => 2 ^ (60 - p.2)).sum := by
      unfold krP
      rw [((srtP_perm (fl.map swp)).map _).sum_nat, List.map_map]; rfl
    rw [e]; exact h.kr
  obtain ⟨_, h2⟩ := cdg_po (srtP (fl.map swp)) 0 0 hs (fun p hp => by
    obtain ⟨x, hx, rfl⟩ := List.mem_map.mp ((srtP_perm _).mem_iff.mp hp)
    exact ⟨Nat.zero_le _, (h.ln x hx).2⟩) (by omega)
  refine pw_mem (fun x hx y hy hxy => ?_) h2
  have bx := (h.bd hx).2
  have by' := (h.bd hy).2
  have p1 : 0 < 2 ^ (60 - x.2.length) := Nat.pow_pos (by decide)
  refine ⟨fun z => ?_, fun z => ?_⟩
  · have := po_prefix z by'; omega
  · have := po_prefix z bx; omega
/-- the code that begins a text -/
def dc (cs : List (Nat × List Bool)) (t : List Bool) : Option (Nat × List Bool) := cs.find? fun p => decide (p.2 <+: t)
theorem PFree.ne {cs : List (Nat × List Bool)} (h : PFree cs) : cs.Pairwise fun x y => x.2 ≠ y.2 := h.imp fun {a b} z (e : a.2 = b.2) => z.1 (by rw [e]; exact List.prefix_refl _)
theorem DDcW.pure {α : Type} {f : α → DV} {xs : List α} {Φ : Mu → Prop} {g : DG} {t : DT} {k v : DE} {vs : List Nat} {δ : DSt} {μ : Mu} {Q : List (Key × V) → Mu → Prop} (kf : α → Key × V) (hΦ : Φ μ)
    (hs : ∀ (i : Nat) (x : α) (acc : List (Key × V)) (P : List (Key × V) → Mu → Prop), xs[i]? = some x → P (putK acc (kf x).1 (kf x).2) μ → g (f x) (dwipe δ vs) μ fun δ2 μ2 => t δ2 μ2 fun b μ3 => if b = true then k δ2 μ3 fun y μ4 => v δ2 μ4 fun z μ5 => ∃ kk vv, y = .d (kyD kk) ∧ toV z = some vv ∧ P (putK acc kk vv) μ5 else P acc μ3)
    (hd : Q (mergeK [] (xs.map kf)) μ) : DDcW (xs.map f) Φ g t k v vs δ μ Q := by
  refine ⟨fun i acc μ' => μ' = μ ∧ acc = mergeK [] ((xs.take i).map kf), ⟨rfl, rfl⟩, ?_, ?_, ?_⟩
  · rintro i acc μ' ⟨rfl, rfl⟩; exact hΦ
  · rintro i y acc μ' hy ⟨rfl, rfl⟩
    rw [List.getElem?_map] at hy
    obtain ⟨z, hz, rfl⟩ := Option.map_eq_some_iff.mp hy
    refine hs i z _ (fun acc μ3 => μ3 = μ' ∧ acc = mergeK [] ((xs.take (i + 1)).map kf)) hz ⟨rfl, ?_⟩
    rw [take_next hz, List.map_append, List.map_singleton, merge_snoc]
  · rintro acc μ' ⟨rfl, rfl⟩
    rw [List.length_map, List.take_length]; exact hd
end L2

namespace L2
open PySem PySem.Spec PyProof.Rows
def fibP : Nat → Nat × Nat
  | 0 => (0, 1)
  | n + 1 => ((fibP n).2, (fibP n).1 + (fibP n).2)
def fib (n : Nat) : Nat := (fibP n).1
/-- groups with how deep they are, the least last joined, and what was counted for a sign -/
structure Fb (gs : List Gp) (h : Gp → Nat) (m : Nat) (P : Nat → Nat) : Prop where
  w : ∀ g ∈ gs, fib (h g + 1) ≤ g.1
  m1 : ∀ g ∈ gs, m ≤ g.1
  m2 : ∀ g ∈ gs, 1 ≤ h g → fib (h g) ≤ m
  p : ∀ g ∈ gs, ∀ s ∈ g.2, P s ≤ h g
end L2

namespace LS
open PySem
def Ris (xs : Array Nat) : Prop := xs.toList.Pairwise (· < ·)
theorem Ris.at {xs : Array Nat} (h : Ris xs) (i j : Nat) (hij : i < j) (hj : j < xs.size) : xs[i]'(Nat.lt_trans hij hj) < xs[j] := by
  have := List.pairwise_iff_getElem.mp h i j (by rw [Array.length_toList]; omega) (by rw [Array.length_toList]; exact hj) hij
  simpa using this
end LS

namespace LS
open PySem PyProof.Rows PySem.Spec
section
variable {prog : Program} {w : World} {A : Around} {E : Value → Shared → Prop} {s : Shared}
end
section
variable {prog : Program} {w : World} {A : Around} {R : Result → Shared → Prop} {I : Addr} {fp wr : List Addr} {G : Array GenState → Array GenState → Prop} {n : Nat} {P : Nat → Value → Prop} {St : Nat → Shared → Prop}
end
end LS

namespace LS
open PySem PyProof.Rows PySem.Spec
section
variable {prog : Program} {w : World} {A : Around} {E : Value → Shared → Prop} {s : Shared}
def SetIt (h : Heap) (I : Addr) (fst : Value) (i : Nat) (D : Addr) (n ep : Nat) : Prop := ∃ o, h.get? I = some o ∧ o.cls = .type "set_iterator" ∧ o.data = .fields #[fst, .int i 0, .ref D, .int n 0, .int ep 0]
def SetAt (h : Heap) (D : Addr) (es : Array (Int × Value)) (ep : Nat) (t : SetTable) : Prop := ∃ o, h.get? D = some o ∧ o.data = .set es ep t ∧ t.fits es.size = true
end
end LS

namespace LS
open PySem PyProof.Rows PySem.Spec
section
variable {prog : Program} {w : World} {A : Around} {E : Value → Shared → Prop} {s : Shared}
theorem SetIt.keep {h h' : Heap} {I : Addr} {fst : Value} {i : Nat} {D : Addr} {n ep : Nat} (x : SetIt h I fst i D n ep) (e : ∀ o, h.get? I = some o → h'.get? I = some o) : SetIt h' I fst i D n ep := let ⟨o, ho, r⟩ := x; ⟨o, e _ ho, r⟩
theorem SetAt.keep {h h' : Heap} {D : Addr} {es : Array (Int × Value)} {ep : Nat} {t : SetTable} (x : SetAt h D es ep t) (e : ∀ o, h.get? D = some o → h'.get? D = some o) : SetAt h' D es ep t := let ⟨o, ho, r⟩ := x; ⟨o, e _ ho, r⟩
def vals (es : Array (Int × Value)) : List Value := es.toList.map (·.2)
end
end LS

namespace LS
open PySem PyProof PyProof.Rows PyProof.Rows.G
section
variable {prog : Program} {w : World} {A : Around} {E : Value → Shared → Prop} {s : Shared}
end
end LS

namespace LS
open PySem PySem.Spec
section
variable {prog : Program} {w : World} {A : Around} {E : Value → Shared → Prop} {s : Shared}
end
end LS

namespace L2
open PySem PySem.Spec PyProof.Rows
end L2

namespace L2
open PySem PySem.Spec PyProof.Rows
def dCountI : DV → List DV → Mu → DQ → Prop := fun x vs μ Q => ∃ (ns : List Int) (n : Int), its μ x = some (ns.map fun n => .d (.int n)) ∧ vs = [.d (.int n)] ∧ Q (.d (.int (ns.count n : Nat))) μ
end L2

namespace L2
open PySem PySem.Spec PyProof.Rows
section
variable {K : PySem.W.Frag} {p q : Addr} {Z : Hp} {μ : Mu} {F H : Hp}
end
section
variable {κ : Type} [DecidableEq κ]
variable {K : PySem.W.Frag} {p : Addr} {F : Hp}
def OptR (K : PySem.W.Frag) (p : Addr) (F : Hp) (ov : Option V) : Option DV → Prop
  | none => ov = none
  | some x => ∃ v, ov = some v ∧ RV K p F v x
theorem OptR.isSome {K : PySem.W.Frag} {p : Addr} {F : Hp} {ov : Option V} : ∀ {o : Option DV}, OptR K p F ov o → ov.isSome = o.isSome
  | none, h => by rw [show ov = none from h]; rfl
  | some x, h => by obtain ⟨v, rfl, _⟩ := h; rfl
end
def MO.dv (kvs : List (Key × DV)) : MO := .bx (fun _ vs o => o = .dK ((kvs.map (·.1)).zip vs)) (kvs.map (·.2))
section
variable {K : PySem.W.Frag} {p q : Addr} {Z : Hp} {μ : Mu} {F H : Hp}
end
section
variable {K : PySem.W.Frag}
end
end L2

namespace LQ
open PySem PySem.Spec PySem.SeqAt PyProof PyProof.Rows PyProof.Rows.G L2
section
variable {prog : Program} {w : World} {A : Around} {E : Value → Shared → Prop} {s : Shared}
theorem eqBool_self {a : Value} {Q : Bool → Shared → Prop} (hQ : Q true s) : wpAny (model prog w) A (eqBool a a) Q E s := by
  unfold eqBool
  refine wpAny_holding ?_
  rw [if_pos (by simp)]
  exact wpAny_bind (wpAny_rule (wpAny_pure hQ))
theorem eqBool_ints {a b : Int} {t u : Tok} {Q : Bool → Shared → Prop} (hu : A.units + 0 < cLine) (hQ : Q (decide (a = b)) s) : wpAny (model prog w) A (eqBool (.int a t) (.int b u)) Q E s := by
  refine eqBoolOverData prog w A E s _ _ (.int a) (.int b) _ _ _ (.int _ _) (.int _ _) rfl rfl ?_ ?_
  · show A.units + 0 < cLine
    exact hu
  · rw [eqv_ii]; exact hQ
def pl (p q : Int × Int) : Prop := p.1 < q.1 ∨ (p.1 = q.1 ∧ p.2 < q.2)
instance (p q : Int × Int) : Decidable (pl p q) := inferInstanceAs (Decidable (_ ∨ _))
end
end LQ
namespace L2
open PySem PySem.Spec PyProof PyProof.Rows
end L2

namespace LQ
open PySem PySem.Spec PySem.SeqAt PyProof PyProof.Rows PyProof.Rows.G L2
section
variable {prog : Program} {w : World} {A : Around} {E : Value → Shared → Prop} {s : Shared}
end
end LQ
namespace L2
open PySem PySem.Spec PyProof.Rows
end L2

namespace L2
open PySem PySem.Spec PyProof.Rows
section
variable {prog : Program} {w : World} {A : Around} {E : Value → Shared → Prop} {s : Shared}
theorem entries_at {a : Addr} {o : Obj} {es : Array DictEntry} {ep : Nat} {Q : Array DictEntry → Shared → Prop} (ho : s.heap.get? a = some o) (hd : o.data = .dict es ep) (hQ : Q es s) : wpAny (model prog w) A (dictEntries a) Q E s := by
  unfold dictEntries
  obtain ⟨hp, g, d, tk, os⟩ := s
  refine wpAny_bind (AutoSeq1.wpAny_loadPart' ho ?_)
  rw [hd]
  exact wpAny_pure hQ
theorem epoch_at {a : Addr} {o : Obj} {es : Array DictEntry} {ep : Nat} {Q : Nat → Shared → Prop} (ho : s.heap.get? a = some o) (hd : o.data = .dict es ep) (hQ : Q ep s) : wpAny (model prog w) A (dictEpoch a) Q E s := by
  unfold dictEpoch
  obtain ⟨hp, g, d, tk, os⟩ := s
  refine wpAny_bind (AutoSeq1.wpAny_loadPart' ho ?_)
  rw [hd]
  exact wpAny_pure hQ
theorem same_pairs {id : String} {a b : Addr} {oa ob : Obj} {ea eb : Array DictEntry} {na nb : Nat} {K : Type} [DecidableEq K] {knd : KeyKind prog w K} {Q : Bool → Shared → Prop} (ha1 : (a == sysModules) = false) (hb1 : (b == sysModules) = false)
    (ha : s.heap.get? a = some oa) (hda : oa.data = .dict ea na) (hb : s.heap.get? b = some ob) (hdb : ob.data = .dict eb nb) (hkb : KeysOf knd eb) (hsz : ea.size = eb.size)
    (hk : ∀ (i : Nat) (x y : DictEntry), ea[i]? = some x → eb[i]? = some y → ∃ k, knd.is k x.key = true ∧ x.hash = knd.hash k ∧ knd.is k y.key = true ∧ (∀ (E : Value → Shared → Prop) (Q : Bool → Shared → Prop), Q true s → wpAny (model prog w) A (eqBool x.val y.val) Q E s))
    (hnd : ∀ (i j : Nat) (x y : DictEntry) (k : K), eb[i]? = some x → eb[j]? = some y → knd.is k x.key = true → knd.is k y.key = true → i = j)
    (hQ : Q true s) : wpAny (model prog w) A (Builtin.Dict.samePairs id a b) Q E s := by
  unfold Builtin.Dict.samePairs Builtin.Dict.showsAll
  rw [ha1, hb1]
  refine wpAny_bind (wpAny_pure ?_)
  refine wpAny_bind (wpAny_pure ?_)
  refine wpAny_bind (entries_at ha hda ?_)
  refine wpAny_bind (entries_at hb hdb ?_)
  rw [if_neg (by simp [hsz])]
  refine wpAny_bind (epoch_at ha hda ?_)
  rw [Std.Legacy.Range.forIn_eq_forIn_range']
  refine wpAny_bind ?_
  refine wpAny_mono (wpAny_forIn_list _ (fun l st s' => s' = s ∧ st = (none, ()) ∧ ∃ k, k ≤ ea.size ∧ l = List.range' k (ea.size - k)) (fun st s' => s' = s ∧ st = (none, ())) ?_ ?_ _ _ ⟨rfl, rfl, 0, Nat.zero_le _, ?_⟩) (fun st s' h => ?_) fun _ _ h => h
  · intro x rest st s' ⟨e1, e2, k, hkk, hl⟩
    subst e1 e2
    obtain ⟨n, hn⟩ : ∃ n, ea.size - k = n + 1 := by
      cases hh : ea.size - k with
      | zero => rw [hh] at hl; cases hl
      | succ n => exact ⟨n, rfl⟩
    rw [hn, List.range'_succ] at hl
    injection hl with e1 e2
    subst e1
    have hx : ea[x]? = some (ea[x]'(by omega)) := Array.getElem?_eq_getElem (by omega)
    have hy : eb[x]? = some (eb[x]'(by omega)) := Array.getElem?_eq_getElem (by omega)
    obtain ⟨kk, i1, i2, i3, i4⟩ := hk x _ _ hx hy
    refine wpAny_bind (entries_at ha hda ?_)
    rw [hx]
    refine wpAny_bind (wpAny_holding ?_)
    rw [i2]
    refine wpAny_bind (wpAny_dictFind_of i1 hb hdb hkb ?_)
    have hf : eb.findIdx? (fun e => knd.is kk e.key) = some x := by
      rw [Array.findIdx?_eq_some_iff_getElem]
      refine ⟨by omega, i3, fun j hj hc => ?_⟩
      have hjb : eb[j]? = some (eb[j]'(by omega)) := Array.getElem?_eq_getElem (by omega)
      have := hnd j x _ _ kk hjb hy hc i3
      omega
    rw [hf]
    refine wpAny_bind (entries_at hb hdb ?_)
    rw [hy]
    refine wpAny_holding (i4 _ _ ?_)
    rw [if_neg (by decide)]
    refine wpAny_bind (epoch_at ha hda ?_)
    rw [if_neg (by simp)]
    refine wpAny_pure ⟨rfl, rfl, x + 1, by omega, ?_⟩
    rw [e2, show ea.size - (x + 1) = n by omega]
  · intro st s' ⟨e1, e2, _⟩
    exact ⟨e1, e2⟩
  · simp [Std.Legacy.Range.size]
  · obtain ⟨rfl, rfl⟩ := h
    exact wpAny_pure hQ
theorem pl_eq {v : V} {u u' : Value} (hp : Pl v = true) (r1 : RelV v u) (r2 : RelV v u') (hu : A.units + 0 < cLine) {Q : Bool → Shared → Prop} (hQ : Q true s) : wpAny (model prog w) A (eqBool u u') Q E s := by
  cases v with
  | non => cases r1; cases r2; exact SeqAt.eqBoolOverData prog w A E s _ _ .none .none _ _ _ .none .none rfl rfl hu hQ
  | bl b => cases r1; cases r2; exact SeqAt.eqBoolOverData prog w A E s _ _ (.bool b) (.bool b) _ _ _ (.bool b) (.bool b) rfl rfl hu (by cases b <;> exact hQ)
  | int i =>
    obtain ⟨t, rfl⟩ := r1
    obtain ⟨t', rfl⟩ := r2
    exact LQ.eqBool_ints hu (by rw [decide_eq_true rfl]; exact hQ)
  | str x =>
    obtain ⟨t, rfl⟩ := r1
    obtain ⟨t', rfl⟩ := r2
    unfold eqBool
    refine wpAny_holding ?_
    by_cases e : (Value.str x t == Value.str x t') = true
    · rw [if_pos e]
      exact wpAny_bind (wpAny_rule (wpAny_pure hQ))
    · rw [if_neg e]
      show wpAny _ _ (do let r ← richCompare .Eq (.str x t) (.str x t'); truthOfDropped r) _ _ _
      refine wpAny_bind (SeqAt.RcAt.str_str x t x t' prog w E _ ?_)
      rw [beq_self_eq_true]
      exact wpAny_truthy_bool hQ
  | ref a =>
    cases r1; cases r2
    exact LQ.eqBool_self hQ
  | _ => cases hp
end
theorem pairs_at {prog : Program} {w : World} {K : Type} [DecidableEq K] {knd : PySem.KeyKind prog w K} : ∀ {es : List DictEntry} {kvs : List (K × Value)} {i : Nat} {e : DictEntry}, PySem.Pairs knd es kvs → es[i]? = some e → ∃ kv, kvs[i]? = some kv ∧ knd.is kv.1 e.key = true ∧ e.val = kv.2
  | _, _, _, _, .nil, h => by simp at h
  | _, _, 0, _, .cons h1 h2 _, h => by
    simp at h; subst h
    exact ⟨_, rfl, h1, h2⟩
  | _, _, i + 1, _, .cons _ _ h3, h => by
    obtain ⟨kv, g⟩ := pairs_at (i := i) h3 (by simpa using h)
    exact ⟨kv, by simpa using g⟩
theorem Paired.back {α β : Type} {R : α → β → Prop} : ∀ {xs : List α} {ys : List β} {i : Nat} {y : β}, Paired R xs ys → ys[i]? = some y → ∃ x, xs[i]? = some x ∧ R x y
  | _, _, _, _, .nil, h => by simp at h
  | _, _, 0, _, .cons h1 _, h => by
    simp at h; subst h
    exact ⟨_, rfl, h1⟩
  | _, _, i + 1, _, .cons _ h3, h => by
    obtain ⟨x, g⟩ := Paired.back (i := i) h3 (by simpa using h)
    exact ⟨x, by simpa using g⟩
def rDEq : R2 := fun x y H Q => ∃ (a b : Addr) (kvs : List (Key × V)), x = .ref a ∧ y = .ref b ∧ H a = some (.dK kvs) ∧ H b = some (.dK kvs) ∧ (∀ p ∈ kvs, Pl p.2 = true) ∧ Q (.bl true) H
theorem op_deq {X : Cx} {j : Nat} (hr : Room j X.A) : OpR X (compareOp .Eq) rDEq := by
  intro pins s σ H x y v u Q I rx ry h
  obtain ⟨a, b, kvs, rfl, rfl, ha, hb, hp, q⟩ := h
  obtain rfl : v = .ref a := rx
  obtain rfl : u = .ref b := ry
  have hu : X.A.units + 200 < cLine := by have := hr.un; omega
  obtain ⟨_, hsa, va, kva, oa, ea, na, hoa, hxa, hda, hka, hpa, hnda⟩ := I.hok a _ ha
  obtain ⟨_, hsb, vb, kvb, ob, eb, nb, hob, hxb, hdb, hkb, hpb, hndb⟩ := I.hok b _ hb
  have ta : s.TypeIs (.ref a) "dict" := ⟨oa, hoa, hxa.1⟩
  have tb : s.TypeIs (.ref b) "dict" := ⟨ob, hob, hxb.1⟩
  show wpAny _ _ (richCompare .Eq (.ref a) (.ref b)) _ _ _
  refine wpAny_richCompare_same_room ta tb F.slot_dict_eq (wpAny_call_entry F.slot_dict_eq ta F.entry_dict_eq ?_ (F.args_dict_eq_2 _ _)) (by omega)
  have hu1 : X.A.in1.units + 0 < cLine := by show X.A.units + 1 + 0 < cLine; omega
  have la := Paired.length kva
  have lb := Paired.length kvb
  have lea := hpa.length
  have leb := hpb.length
  show wpAny _ _ ((do
    let x ← Builtin.Dict.dictSlotArgs "__eq__" ⟨[.ref a, .ref b], []⟩
    match x with
    | (self, other) => do
      let i ← PySem.isInstance other (Value.type "dict")
      if (!i) = true then do
        rule (toString "dict." ++ toString "__eq__" ++ toString ".not-a-dict")
        ret Value.notImplemented
      else do
        let a1 ← Builtin.Dict.addrOf self
        let b1 ← Builtin.Dict.addrOf other
        let r ← Builtin.Dict.samePairs (toString "dict." ++ toString "__eq__") a1 b1
        ret (Value.bool (r == true))) : Sem PySem.Fin) _ _ _
  have hs : Builtin.Dict.dictSlotArgs "__eq__" ⟨[.ref a, .ref b], []⟩ = pure (.ref a, .ref b) := by rfl
  rw [hs]
  refine wpAny_bind (wpAny_pure ?_)
  show wpAny _ _ (PySem.isInstance (.ref b) (Value.type "dict") >>= _) _ _ _
  refine wpAny_bind (wpAny_isInstance tb (by rfl) ?_)
  rw [if_neg (by decide)]
  refine wpAny_bind (wpAny_pure ?_)
  refine wpAny_bind (wpAny_pure ?_)
  refine wpAny_bind (same_pairs (knd := mixKind X.prog X.w) hsa hsb hoa hda hob hdb hkb ?_ (fun i x y hx hy => ?_) (fun i j x y k hx hy h1 h2 => ?_) ?_)
  · rw [← Array.length_toList, ← Array.length_toList, lea, leb]; omega
  · rw [← Array.getElem?_toList] at hx hy
    obtain ⟨kv, g1, g2, g3⟩ := pairs_at hpa hx
    obtain ⟨kv', g1', g2', g3'⟩ := pairs_at hpb hy
    obtain ⟨p, hpp, e1, r1⟩ := Paired.back kva g1
    obtain ⟨p', hpp', e1', r1'⟩ := Paired.back kvb g1'
    rw [hpp] at hpp'
    cases hpp'
    refine ⟨kv.1, g2, ?_, ?_, fun E Q hQ => ?_⟩
    · obtain ⟨k2, i1, i2⟩ := hka x (by rw [← Array.mem_toList_iff]; exact List.mem_of_getElem? hx)
      rw [i2, (mixKind X.prog X.w).inj _ _ _ i1 g2]
    · rw [← e1, e1']; exact g2'
    · rw [g3, g3']
      exact pl_eq (hp _ (List.mem_of_getElem? hpp)) r1 r1' (by show X.A.in1.units + 0 < cLine; exact hu1) hQ
  · rw [← Array.getElem?_toList] at hx hy
    obtain ⟨kv, g1, g2, _⟩ := pairs_at hpb hx
    obtain ⟨kv', g1', g2', _⟩ := pairs_at hpb hy
    have a1 := (mixKind X.prog X.w).inj _ _ _ g2 h1
    have a2 := (mixKind X.prog X.w).inj _ _ _ g2' h2
    have m1 : (vb.map (·.1))[i]? = some k := by rw [List.getElem?_map, g1, ← a1]; rfl
    have m2 : (vb.map (·.1))[j]? = some k := by rw [List.getElem?_map, g1', ← a2]; rfl
    have pw := List.pairwise_iff_getElem.mp hndb
    obtain ⟨b1, c1⟩ := List.getElem?_eq_some_iff.mp m1
    obtain ⟨b2, c2⟩ := List.getElem?_eq_some_iff.mp m2
    rcases Nat.lt_trichotomy i j with c | c | c
    · exact absurd (c1.trans c2.symm) (pw i j _ _ c)
    · exact c
    · exact absurd (c2.trans c1.symm) (pw j i _ _ c)
  · exact wpAny_pure ⟨_, rfl, by simp, .bl true, H, I, rfl, q⟩
def dDEq : DR2 := fun x y μ Q => ∃ (l k : Addr) (kvs : List (Key × V)), x = .r l ∧ y = .r k ∧ μ.o l = some (.dc (.dK kvs)) ∧ μ.o k = some (.dc (.dK kvs)) ∧ (∀ p ∈ kvs, Pl p.2 = true) ∧ Q (.d (.bool true)) μ
theorem sr_deq {K : PySem.W.Frag} : SR K rDEq dDEq := by
  intro p q Z v w x y μ F H QD Q rp r1 r2 lf h
  obtain ⟨l, k, kvs, rfl, rfl, e1, e2, hp, h⟩ := h
  cases r1; cases r2
  exact ⟨l, k, kvs, rfl, rfl, (rp.dc _ _ e1).2.2.2, (rp.dc _ _ e2).2.2.2, hp, lf _ _ _ _ _ (Same.refl _) rp rv_bl h⟩
end L2

namespace LQ
open PySem PySem.Spec PySem.SeqAt PyProof PyProof.Rows PyProof.Rows.G L2
section
variable {prog : Program} {w : World} {A : Around} {E : Value → Shared → Prop} {s : Shared}
def strV : Value → Str
  | .str x _ => x
  | _ => default
theorem strs_iff : ∀ {vs : List Value} {ss : List Str}, StrsAre vs ss ↔ (∀ v ∈ vs, ∃ x t, v = Value.str x t) ∧ vs.map strV = ss
  | [], ss => ⟨fun h => by cases h; exact ⟨by simp, rfl⟩, fun ⟨_, h⟩ => by subst h; exact .nil⟩
  | v :: vs, ss => by
    constructor
    · intro h
      cases h with
      | cons y t h =>
        obtain ⟨a, b⟩ := strs_iff.mp h
        refine ⟨fun u hu => ?_, by rw [List.map_cons, b]; rfl⟩
        rcases List.mem_cons.mp hu with rfl | hu
        · exact ⟨y, t, rfl⟩
        · exact a u hu
    · rintro ⟨h1, h2⟩
      obtain ⟨x, t, rfl⟩ := h1 v (by simp)
      subst h2
      exact .cons x t (strs_iff.mpr ⟨fun u hu => h1 u (by simp [hu]), rfl⟩)
theorem strs_perm {vs out : List Value} {ss : List Str} (h : StrsAre vs ss) (p : out.Perm vs) : ∃ ss', StrsAre out ss' ∧ ss'.Perm ss := by
  obtain ⟨h1, h2⟩ := strs_iff.mp h
  exact ⟨out.map strV, strs_iff.mpr ⟨fun v hv => h1 v (p.mem_iff.mp hv), rfl⟩, by rw [← h2]; exact p.map _⟩
theorem sorted_listS {l : Addr} {vs : List Value} {ss : List Str} {Q : Value → Shared → Prop} (hl : s.heap.IsList l vs.toArray) (hI : StrsAre vs ss) (hL : vs.length ≤ sizeLine)
    (h : ∀ (out : Array Value) (ss' : List Str), StrsAre out.toList ss' → ss'.Perm ss → Q (.ref (s.heap.objs.size + 1)) { s with heap := sortedAll s.heap vs out }) :
    wpAny (model prog w) A (call (.builtin "sorted") [.ref l]) Q E s := by
  have hsz : ((s.heap.push (seqObj "list" #[] 0)).update s.heap.objs.size (Obj.mapSeq (· ++ vs.toArray))).objs.size = s.heap.objs.size + 1 := by
    rw [Heap.size_update, size_push']
  have hoL : (((s.heap.push (seqObj "list" #[] 0)).update s.heap.objs.size (Obj.mapSeq (· ++ vs.toArray))).push (seqObj "list" vs.toArray 0)).get? (s.heap.objs.size + 1) = some (seqObj "list" vs.toArray 0) := by
    rw [← hsz]; exact Heap.get?_push_size _ rfl
  refine Calls.call_function_entry kind_sorted plain_sorted entry_sorted (args_sorted1 _) ?_
  unfold Builtin.«sorted»
  refine wpAny_bind (m := checkCount "sorted" 1 1 _) (wpAny_pure ?_)
  refine wpAny_bind (collect_list hl ?_)
  refine wpAny_bind (wpAny_newList ?_)
  rw [hsz]
  show wpAny _ _ _ _ _ { s with heap := ((s.heap.push (seqObj "list" #[] 0)).update s.heap.objs.size (Obj.mapSeq (· ++ vs.toArray))).push (seqObj "list" vs.toArray 0) }
  refine wpAny_bind (wpAny_holding (wpAny_call_entry slot_list_sort ⟨_, hoL, rfl⟩ entry_list_sort (list_sort_treeKAny strKind_oneLt hoL (StrsAre.keysOf hI) (fun v₁ v₂ rest e => keyKind_strs (by rw [← e]; exact hI)) hL fun st' hp _ => ⟨_, rfl, ?_⟩) (args_list_sort _)))
  have hp2 : ((arrOf st').map (·.2)).toList.Perm vs := by
    have := (Array.perm_iff_toList_perm.mp hp).map (fun x : Keyed => x.2)
    rw [Array.toList_map]
    refine this.trans ?_
    unfold pairsOf
    rw [Array.toList_zip, List.map_snd_zip (Nat.le_refl _)]
  obtain ⟨ss', h1, h2⟩ := strs_perm hI hp2
  exact wpAny_pure ⟨_, rfl, h _ ss' h1 h2⟩
end
end LQ
namespace L2
open PySem PySem.Spec PyProof.Rows
def rSortedSL (K : PySem.W.Frag) : List V → Hp → VK → Prop := fun vs H Q => ∃ (a : Addr) (xs : List Str), vs = [.ref a] ∧ SqL K H a (xs.map V.str) ∧ xs.length ≤ 6000 ∧
  ∀ (ys : List Str) (p : Addr), ys.Perm xs → H p = none → Q (.ref p) (upd H p (.lst (ys.map V.str)))
theorem call_sortedSL {X : Cx} : CallR X (.builtin "sorted") (rSortedSL X.K) := by
  intro pins s σ H vs us Q I r h
  obtain ⟨a, xs, rfl, hs, h6, q⟩ := h
  obtain ⟨its, rv, hl, _⟩ := I.list hs
  rw [Vals.ref1 r]
  have hlen0 := rv.length
  rw [List.length_map] at hlen0
  refine LQ.sorted_listS (vs := its) hl.isList rv.strs (by rw [← hlen0]; exact Nat.le_trans h6 (by decide)) fun out ys h1 h2 => ?_
  obtain ⟨ep, he'⟩ := PyProof.Rows.sortedAll_at s.heap its out
  have hlen : (ys.map V.str).length ≤ sizeLine := by rw [List.length_map, h2.length_eq]; exact Nat.le_trans h6 (by decide)
  exact ⟨.ref _, upd H (s.heap.objs.size + 1) (.lst (ys.map V.str)), I.laid (t' := s.toks) (fun _ _ => PyProof.Rows.sortedAll_old) (Nat.le_succ _) ⟨hlen, out.toList, ep, vals_of_strs h1, he'⟩, rfl, q ys _ h2 (I.hok.fresh (Nat.le_succ _))⟩
def dSortedSL : DR1 := fun xs μ Q => ∃ (x : DV) (ss : List Str), xs = [x] ∧ its μ x = some (ss.map fun s => .d (.str s)) ∧ ss.length ≤ 6000 ∧ ∀ ys : List Str, ys.Perm ss → Q (.d (.list (ys.map PyData.str))) μ
theorem rvs_strs {K : PySem.W.Frag} {p : Addr} {F : Hp} : ∀ {ws : List V} {ss : List Str}, RVs K p F ws (ss.map fun s => .d (.str s)) → ws = ss.map V.str
  | _, [], h => by cases h; rfl
  | _, s :: ss, h => by
    cases h with
    | cons a b => cases a; rw [rvs_strs b]; rfl
theorem dq_of_strs {K : PySem.W.Frag} {F : Hp} : ∀ ss : List Str, DqAll K F (ss.map V.str) (ss.map PyData.str)
  | [] => .nil
  | s :: ss => .cons (.str s) (dq_of_strs ss)
theorem sb_sortedSL {K : PySem.W.Frag} : SB K (rSortedSL K) dSortedSL := by
  intro p q Z vs xs μ F H QD Q rp rv lf h
  obtain ⟨x, ss, rfl, e, h6, h⟩ := h
  cases rv with
  | cons r rr =>
    cases rr
    obtain ⟨a, ws, rfl, ha, rw'⟩ := rp.its r e
    rw [rvs_strs rw'] at ha
    refine ⟨a, ss, rfl, SqL.of ha, h6, fun ys l p1 hl => ?_⟩
    obtain ⟨rp2, s2⟩ := rp.newF (o := .lst (ys.map V.str)) hl
    exact lf _ _ _ _ _ s2 rp2 (rv_d (.lst upd_same (dq_of_strs ys))) (h ys p1)
def tLVals (td : TE) : TE := fun σ H Q => td σ H fun x H1 => ∃ (d : Addr) (kvs : List (Key × V)), x = .ref d ∧ H1 d = some (.dK kvs) ∧ kvs.length ≤ 6000 ∧ ∀ l, H1 l = none → Q (.ref l) (upd H1 l (.lst (kvs.map (·.2))))
theorem pe_lvals {X : Cx} {e : Expr} {td : TE} {p1 pos1 apos cpos : Pos} (hc : X.calm = true) (hgl : Gl X "list") (hml : X.mg "list" = none) (he : PE X e td)
    (hs1 : starEach [.Call (.Attribute e "values" apos) [] [] cpos] X.env = [(false, eval (.Call (.Attribute e "values" apos) [] [] cpos) X.env)] := by rfl)
    (hbase : attributeBase e "values" X.env (eval e X.env) = eval e X.env := by rfl) (hline : (apos.endLine == cpos.line) = true := by rfl) :
    PE X (.Call (.Name "list" p1) [.Call (.Attribute e "values" apos) [] [] cpos] [] pos1) (tLVals td) := by
  intro pins s σ H Q I h
  refine Call_ (ld_blt I hgl hml boot_list9 (PyProof.Rows.callWith_type1 ?_ hs1 rfl))
  rw [hs1]
  show wpAny _ _ (spliced ((false, eval (.Call (.Attribute e "values" apos) [] [] cpos) X.env) :: [])) _ _ s
  refine Calls.spliced_cons ?_
  refine wpAny_Call_method (T := "dict") (id := "dict.values") hbase rfl hline F.plainAttrs_dict F.slot_dict_values F.type_dict_values (thn (he pins s σ H _ I h) fun u s1 ⟨x, H1, I1, rx, d, kvs, ex, hd, hn, q⟩ => ?_)
  subst ex
  obtain rfl : u = Value.ref d := rx
  obtain ⟨_, hs, vs, kv, o, es, ep, hgd, hx, hdt, hm⟩ := I1.hok d _ hd
  have hda : s1.heap.DictAt (mixKind X.prog X.w) d vs ep := ⟨o, es, hgd, hx, hdt, hm⟩
  have hl : kvs.length = vs.length := Paired.length kv
  refine ⟨hda.dictOf.typeIs, hda.dictOf.mapOf.noDict, ?_⟩
  have I2 : Inv X pins σ H1 { s1 with heap := s1.heap.push { cls := .type "dict_values", data := .fields #[.ref d] } } := I1.kept (t' := s1.toks) fun b ob q => Heap.get?_push_of_some _ q
  show wpAny _ _ (callWith cpos (.builtin "dict.values") [.ref d] [] []) _ X.xe s1
  refine method_meetsIn F.slot_dict_values F.entry_dict_values rfl (PySem.evalArgs_none ⟨rfl, hda.dictOf.typeIs, F.args_dict_values_1 _, _, meets_dict_values (mixKind X.prog X.w) d hs, ⟨vs, hda.dictOf⟩, ?_⟩)
  refine Calls.spliced_nil ?_
  refine PySem.W.kdl_call (PySem.W.kdl_values (d := d) (ep := ep) (kvs := vs) (knd := mixKind X.prog X.w)) (I2.ok.hd hc) ⟨⟨_, Heap.get?_push_size _ rfl, rfl, rfl⟩, hda.push _⟩ (by rw [← hl]; exact Nat.le_trans hn (by decide)) fun h' tk acc c' kp hlst items => ?_
  obtain ⟨hsz, hit⟩ := items
  have hlen : (kvs.map fun p => p.2).length = vs.length := by rw [List.length_map, hl]
  have hv : Vals (kvs.map fun p => p.2) acc.toList := vals_of (by rw [hlen, Array.length_toList]; exact hsz.symm) fun m v u h1 h2 => by
    rw [List.getElem?_map] at h1
    obtain ⟨⟨k, v⟩, hk, rfl⟩ := Option.map_eq_some_iff.mp h1
    obtain ⟨k2, e2⟩ := hit m u (by rw [← Array.getElem?_toList]; exact h2)
    obtain ⟨u2, hu2, r2⟩ := kv_get kv hk
    rw [hu2] at e2
    cases e2
    exact r2
  exact ⟨.ref _, _, I2.laid (t' := tk) kp (Nat.le_refl _) (show ObjOk X.prog X.w _ h' _ (.lst (kvs.map fun p => p.2)) from ⟨by rw [List.length_map]; exact Nat.le_trans hn (by decide), acc.toList, c', hv, hlst⟩), rfl, q _ (I2.hok.fresh (Nat.le_refl _))⟩
/-- the values are texts -/
def dLVals (dd : DE) : DE := fun δ μ Q => dd δ μ fun x μ1 => ∃ (l : Addr) (kvs : List (Key × V)) (ss : List Str), x = .r l ∧ μ1.o l = some (.dc (.dK kvs)) ∧ kvs.length ≤ 6000 ∧ kvs.map (·.2) = ss.map V.str ∧ Q (.d (.list (ss.map PyData.str))) μ1
theorem se_lvals {K : PySem.W.Frag} {td : TE} {dd : DE} (hd : SE K td dd) : SE K (tLVals td) (dLVals dd) := by
  intro p q Z σ δ μ F H QD Q rs rp lf h
  refine hd p q Z σ δ μ F H _ _ rs rp (fun v x μ1 F1 H1 s1 rp1 rv1 h1 => ?_) h
  obtain ⟨l, kvs, ss, rfl, e, hn, es, h1⟩ := h1
  cases rv1
  refine ⟨l, kvs, rfl, (rp1.dc _ _ e).2.2.2, hn, fun l2 hl => ?_⟩
  rw [es]
  obtain ⟨rp2, s2⟩ := rp1.newF (o := .lst (ss.map V.str)) hl
  exact lf _ _ _ _ _ (s1.trans s2) rp2 (rv_d (.lst upd_same (dq_of_strs ss))) h1
end L2

namespace L2
open PySem PySem.Spec PyProof.Rows
def dDispS (n : Int) (s : Str) : DE := fun δ μ Q => ∀ l, μ.o l = none → Q (.r l) (μ.put l (.dc (.dK [(.inl n, .str s)])))
theorem se_dispS {K : PySem.W.Frag} {n : Int} {s : Str} : SE K (tDisp [(tC (.int n), tC (.str s))]) (dDispS n s) := by
  intro p q Z σ δ μ F H QD Q rs rp lf h
  intro l hl
  have h1 := h l (rp.free hl).1
  have rp0 := rp.newD (o := .dK []) hl
  have e : (μ.put l (.dc (.dK []))).o l = some (.dc (.dK [])) := Mu.put_same
  have eH := (rp0.dc _ _ e).2.2.2
  refine ⟨eH, [(.inl n, .str s)], rfl, by simp, ?_⟩
  have rp1 := rp0.setD (o' := .dK [(.inl n, .str s)]) e
  rw [Mu.put_put] at rp1
  exact lf _ _ _ _ _ (Same.refl _) rp1 rv_r h1
def rStarts : V → List V → Hp → VK → Prop := fun x xs H Q => ∃ a b, x = .str a ∧ xs = [.str b] ∧ Q (.bl (Txt.startswith a b)) H
section
variable {X : Cx} {o e : Expr} {to te : TE}
theorem pe_starts {apos pos : Pos} (ho : PE X o to) (he : PE X e te) (hs : starEach [e] X.env = [(false, eval e X.env)] := by rfl) (hbase : attributeBase o "startswith" X.env (eval o X.env) = eval o X.env := by rfl) (hline : (apos.endLine == pos.line) = true := by rfl) :
    PE X (.Call (.Attribute o "startswith" apos) [e] [] pos) (tM1 rStarts to te) := pe_m1 F.slot_str_startswith F.type_str_startswith mt_startswith ho he hs hbase hline
end
def dStarts (o e : DE) : DE := fun δ μ Q => o δ μ fun x μ1 => (∃ a, x = .d (.str a)) ∧ e δ μ1 fun y μ2 => ∃ a b, x = .d (.str a) ∧ y = .d (.str b) ∧ Q (.d (.bool (Txt.startswith a b))) μ2
theorem se_starts {K : PySem.W.Frag} {to te : TE} {dO de : DE} (ho : SE K to dO) (he : SE K te de) : SE K (tM1 rStarts to te) (dStarts dO de) := by
  intro p q Z σ δ μ F H QD Q rs rp lf h
  refine ho p q Z σ δ μ F H _ _ rs rp (fun v x μ1 F1 H1 s1 rp1 rv1 h1 => ?_) h
  obtain ⟨⟨a, rfl⟩, h1⟩ := h1
  cases rv1
  refine ⟨⟨a, rfl⟩, he p q Z σ δ μ1 F1 H1 _ _ (rs.same s1) rp1 (fun w y μ2 F2 H2 s2 rp2 rv2 h2 => ?_) h1⟩
  obtain ⟨a', b, e, rfl, h2⟩ := h2
  cases e
  cases rv2
  exact ⟨a, b, rfl, rfl, lf _ _ _ _ _ (s1.trans s2) rp2 rv_bl h2⟩
def dIsiD : DR1 := fun xs μ Q => ∃ l kvs, xs = [.r l, .ty "dict"] ∧ μ.o l = some (.dc (.dK kvs)) ∧ Q (.d (.bool true)) μ
theorem sb_isiD {K : PySem.W.Frag} : SB K (rIsi K) dIsiD := by
  intro p q Z vs xs μ F H QD Q rp rv lf h
  obtain ⟨l, kvs, rfl, e, h⟩ := h
  cases rv with
  | cons r rr =>
    cases rr with
    | cons r2 rr2 =>
      cases rr2; cases r; cases r2
      refine ⟨_, _, _, rfl, ⟨_, .dK (rp.dc _ _ e).2.2.2, by unfold PySem.W.kitOne; rfl⟩, lf _ _ _ _ _ (Same.refl _) rp rv_bl h⟩
end L2

namespace K41
open PySem L2
def N_p_bits_of : List Str := ["number", "many", "at"]
def P_p_bits_of : List Str := ["number", "many"]
def N_p_codes : List Str := ["lengths_of", "told", "number", "ahead", "length", "sign"]
def P_p_codes : List Str := ["lengths_of"]
def N_p_coded : List Str := ["signs", "lengths_of", "told", "sign"]
def P_p_coded : List Str := ["signs", "lengths_of"]
def N_pen : List Str := ["_law_script", "_law_cell"]
def P_pen : List Str := ["_law_script"]
def N_take : List Str := ["_law_pen_here", "_law_upto", "_law_turn", "_law_cell", "_law_mixed", "_law_digit", "_law_great"]
def P_take : List Str := ["_law_pen_here", "_law_upto"]
def N_whole : List Str := ["_law_given", "_law_least", "_law_most"]
def P_whole : List Str := ["_law_given", "_law_least", "_law_most"]
def N_signs : List Str := ["_law_pen_here", "_law_size_here", "_law_way", "_law_mode", "_law_spare", "_law_sign", "_law_found", "_law_k", "_law_gap"]
def P_signs : List Str := ["_law_pen_here", "_law_size_here", "_law_way"]
def N_size : List Str := ["_law_pen_here", "_law_way", "_law_few"]
def P_size : List Str := ["_law_pen_here", "_law_way"]
def N_leaves : List Str := ["_law_pen_here", "_law_size_here", "_law_mode", "_law_leaves_here", "_law_spot", "_law_leaf"]
def P_leaves : List Str := ["_law_pen_here", "_law_size_here"]
def N_full : List Str := ["_law_pen_here", "_law_way", "_law_size_here", "_law_left", "_law_rows", "_law_sign"]
def P_full : List Str := ["_law_pen_here"]
def N_bits : List Str := ["_law_worth", "_law_size_here", "_law_found", "_law_k"]
def P_bits : List Str := ["_law_worth", "_law_size_here"]
def N_codes : List Str := ["_law_rows", "_law_found", "_law_worth", "_law_long", "_law_size_here", "_law_sign", "_law_k"]
def P_codes : List Str := ["_law_rows"]
def N_right : List Str := ["_law_rows", "_law_due", "_law_told", "_law_some", "_law_sign", "_law_size_here", "_law_one", "_law_other"]
def P_right : List Str := ["_law_rows"]
def N_law : List Str := ["_law_script", "_law_pen_here", "_law_turn", "_law_rows", "_law_kept", "_law_due", "_law_message", "_law_found", "_law_k", "_law_sign"]
def P_law : List Str := ["_law_script"]
def lng : PyData → Nat
  | .tuple [_, .int i] => i.toNat
  | _ => 0
def rise : List Int → Bool
  | a :: b :: r => decide (a < b) && rise (b :: r)
  | _ => true
def krf (ds : List PyData) : Nat := (ds.map fun d => 2 ^ (60 - lng d)).sum
def one1 : List PyData → Bool
  | [d] => decide (lng d = 1)
  | ds => decide (krf ds = 2 ^ 60)
structure FOk (ps : List (Nat × Nat)) : Prop where
  l1 : 1 ≤ ps.length
  l2 : ps.length ≤ 300
  sg : ∀ p ∈ ps, p.1 ≤ 511
  ln : ∀ p ∈ ps, 1 ≤ p.2 ∧ p.2 ≤ 60
  up : rise (ps.map fun p => (p.1 : Int)) = true
  kr : one1 (ps.map pC) = true
structure LOk (ls : List Nat) : Prop where
  ln : ∀ x ∈ ls, 1 ≤ x ∧ x ≤ 60
  o1 : ls.length = 1 → ls = [1]
  o2 : 2 ≤ ls.length → (ls.map fun x => 2 ^ (60 - x)).sum = 2 ^ 60
def dp_p_bits_of : DSp := fun xs μ Q => ∃ (n m : Nat), xs = [.d (.int n), .d (.int m)] ∧ m ≤ 1000 ∧ Q (.d (.str (bt (btn n m)))) μ
def dp_p_codes : DSp := fun xs μ Q => ∃ fl : List (Nat × Nat), xs = [.d (.list (fl.map pC))] ∧ FlOk fl ∧ ∀ l, μ.o l = none → Q (.r l) (μ.put l (.dc (.dK (kvC (cds fl)))))
def dp_signs : DSp := fun xs μ Q => ∃ n w : Nat, xs = [.pen, .d (.int n), .d (.int w)] ∧ 1 ≤ n ∧ n ≤ 300 ∧ μ.n < 900000 ∧ ∀ (ss : List Nat) (k : Nat), ss.length = n → (∀ s ∈ ss, s ≤ 511) → rise (ss.map fun s : Nat => (s : Int)) = true → μ.n ≤ k → k ≤ μ.n + 1000 → Q (.d (lN ss)) (μ.at k)
def dp_size : DSp := fun xs μ Q => ∃ w : Nat, xs = [.pen, .d (.int w)] ∧ μ.n < 900000 ∧ ∀ n : Nat, 1 ≤ n → n ≤ 300 → Q (.d (.int n)) (μ.at (μ.n + 1))
def dp_leaves : DSp := fun xs μ Q => ∃ n : Nat, xs = [.pen, .d (.int n)] ∧ 1 ≤ n ∧ n ≤ 300 ∧ μ.n < 900000 ∧ ∀ (ls : List Nat) (k : Nat) (l : Addr), ls.length = n → LOk ls → μ.n ≤ k → k ≤ μ.n + 400 → μ.o l = none → Q (.r l) ((μ.at k).put l (.own (ls.map fun n : Nat => .d (.int n))))
def dp_full : DSp := fun xs μ Q => xs = [.pen] ∧ μ.n < 800000 ∧ ∀ (ps : List (Nat × Nat)) (k : Nat), FOk ps → μ.n ≤ k → k ≤ μ.n + 2000 → Q (.d (.list (ps.map pC))) (μ.at k)
def dp_p_coded : DSp := fun xs μ Q => ∃ (msg : List Nat) (fl : List (Nat × Nat)), xs = [.d (lN msg), .d (.list (fl.map pC))] ∧ FlX fl ∧ (∀ s ∈ msg, s ∈ fl.map (·.1)) ∧ msg.length ≤ 6000 ∧ Q (.d (.str (bt (msg.flatMap (cdOf fl))))) μ
def dp_whole : DSp := fun xs μ Q => ∃ n lo hi : Int, xs = [.d (.int n), .d (.int lo), .d (.int hi)] ∧ Q (.d (.bool (decide (lo ≤ n ∧ n ≤ hi)))) μ
def dp_bits : DSp := fun xs μ Q => ∃ n m : Nat, xs = [.d (.int (n : Nat)), .d (.int (m : Nat))] ∧ m ≤ 1000 ∧ Q (.d (.str (bt (btn n m)))) μ
def dp_codes : DSp := fun xs μ Q => ∃ fl : List (Nat × Nat), xs = [.d (.list (fl.map pC))] ∧ FlOk fl ∧ ∀ l, μ.o l = none → Q (.r l) (μ.put l (.dc (.dK (kvC (cds fl)))))
def dp_right : DSp := fun xs μ Q => ∃ fl : List (Nat × Nat), xs = [.d (.list (fl.map pC))] ∧ FOk fl ∧ Q (.d (.bool true)) μ
abbrev sp_p_bits_of (K : PySem.W.Frag) : Sp := spOf K dp_p_bits_of
abbrev sp_p_codes (K : PySem.W.Frag) : Sp := spOf K dp_p_codes
abbrev sp_p_coded (K : PySem.W.Frag) : Sp := spOf K dp_p_coded
abbrev sp_whole (K : PySem.W.Frag) : Sp := spOf K dp_whole
abbrev sp_signs (K : PySem.W.Frag) : Sp := spOf K dp_signs
abbrev sp_size (K : PySem.W.Frag) : Sp := spOf K dp_size
abbrev sp_leaves (K : PySem.W.Frag) : Sp := spOf K dp_leaves
abbrev sp_full (K : PySem.W.Frag) : Sp := spOf K dp_full
abbrev sp_bits (K : PySem.W.Frag) : Sp := spOf K dp_bits
abbrev sp_codes (K : PySem.W.Frag) : Sp := spOf K dp_codes
abbrev sp_right (K : PySem.W.Frag) : Sp := spOf K dp_right
abbrev sp_take (K : PySem.W.Frag) : Sp := sp_takeW K
def sp_law (K : PySem.W.Frag) : Sp := fun vs H Q _ => ∃ (a : Addr) (ns : List Int), vs = [.ref a] ∧ SqL K H a (ns.map V.int) ∧ ns.length ≤ 63 ∧ ∀ H', Q (.bl true) H'

structure BF_p_codes (K : PySem.W.Frag) (fd : FuncData) : Prop where
  k_0_lengths_of : KBinds K fd P_p_codes ["lengths_of"] (gK 0 1) (gK 0 1)
  p : Binds K fd P_p_codes []
structure BF_p_coded (K : PySem.W.Frag) (fd : FuncData) : Prop where
  k_0_lengths_of_signs : KBinds K fd P_p_coded ["lengths_of", "signs"] (gP 0 [1, 0]) (gP 0 [1, 0])
  p : Binds K fd P_p_coded []
def p_bits_of_1 (K : PySem.W.Frag) : TS := tRet (tM1 (rJoin K) (tC (.str "")) (tLc (iRng3 (tCons (tOp (rI0 fun i j => .int (i - j)) (tVar 1) (tC (.int 1))) (tCons (tUn (rU fun i => .int (-i)) (tC (.int 1))) (tCons (tUn (rU fun i => .int (-i)) (tC (.int 1))) tNil)))) (gName 2) tYes (tCB rStrI (tCons (tOp (rI0 fun i j => .int (Builtin.bitAnd i j)) (tOp (rI (fun _ j => 0 ≤ j) fun i j => .int (i / 2 ^ j.toNat)) (tVar 0) (tVar 2)) (tC (.int 1))) tNil)) [2]))
def p_bits_of_1D : DS := dRet (dJoin (dC (.d (.str ""))) (dLc false (jRng3 (dCons (dOp (dI0 fun i j => .int (i - j)) (dVar 1) (dC (.d (.int 1)))) (dCons (dNeg (dC (.d (.int 1)))) (dCons (dNeg (dC (.d (.int 1)))) dNil)))) (hName 2) dYes (dCB dStrI (dCons (dOp (dI0 fun i j => .int (Builtin.bitAnd i j)) (dOp (dI (fun _ j => 0 ≤ j) fun i j => .int (i / 2 ^ j.toNat)) (dVar 0) (dVar 2)) (dC (.d (.int 1)))) dNil)) [2]))
theorem so_p_bits_of_1 {K : PySem.W.Frag} : SS K (p_bits_of_1 K) p_bits_of_1D := ss_ret (se_join se_str (se_lc (si_rng3 (sa_cons (se_op sr_I0i se_var se_int) (sa_cons (se_neg se_int) (sa_cons (se_neg se_int) sa_nil)))) sg_name gw_name st_yes (se_cb sb_strI (sa_cons (se_op sr_I0i (se_op sr_I se_var se_var) se_int) sa_nil))))
def p_bits_of_B (K : PySem.W.Frag) : TS := (p_bits_of_1 K)
def p_bits_of_BD : DS := p_bits_of_1D
theorem so_p_bits_of {K : PySem.W.Frag} : SS K (p_bits_of_B K) p_bits_of_BD := so_p_bits_of_1
def p_codes_1 (K : PySem.W.Frag) : TS := tAsg tDNewK (gName 1)
def p_codes_1D : DS := dAsg (dDNewO false) (hName 1)
theorem so_p_codes_1 {K : PySem.W.Frag} : SS K (p_codes_1 K) p_codes_1D := ss_asg se_dnewOK sg_name
def p_codes_2 (K : PySem.W.Frag) : TS := tAsg (tUn (rU fun i => .int (-i)) (tC (.int 1))) (gName 2)
def p_codes_2D : DS := dAsg (dNeg (dC (.d (.int 1)))) (hName 2)
theorem so_p_codes_2 {K : PySem.W.Frag} : SS K (p_codes_2 K) p_codes_2D := ss_asg (se_neg se_int) sg_name
def p_codes_3 (K : PySem.W.Frag) : TS := tAsg (tC (.int 0)) (gName 3)
def p_codes_3D : DS := dAsg (dC (.d (.int 0))) (hName 3)
theorem so_p_codes_3 {K : PySem.W.Frag} : SS K (p_codes_3 K) p_codes_3D := ss_asg se_int sg_name
def p_codes_4 (K : PySem.W.Frag) : TS := tAsg (tOp (rI CShl fun i j => .int (i * 2 ^ j.toNat)) (tOp (rI0 fun i j => .int (i + j)) (tVar 2) (tC (.int 1))) (tOp (rI0 fun i j => .int (i - j)) (tVar 4) (tVar 3))) (gName 2)
def p_codes_4D : DS := dAsg (dOp (dI CShl fun i j => .int (i * 2 ^ j.toNat)) (dOp (dI0 fun i j => .int (i + j)) (dVar 2) (dC (.d (.int 1)))) (dOp (dI0 fun i j => .int (i - j)) (dVar 4) (dVar 3))) (hName 2)
theorem so_p_codes_4 {K : PySem.W.Frag} : SS K (p_codes_4 K) p_codes_4D := ss_asg (se_op sr_I (se_op sr_I0i se_var se_int) (se_op sr_I0i se_var se_var)) sg_name
def p_codes_5 (K : PySem.W.Frag) : TS := sDPut (tVar 1) (tVar 5) (tCall (sp_p_bits_of K) [] E0 (tCons (tVar 2) (tCons (tVar 4) tNil)))
def p_codes_5D : DS := dDPut (dVar 1) (dVar 5) (dCall dp_p_bits_of [] (dCons (dVar 2) (dCons (dVar 4) dNil)))
theorem so_p_codes_5 {K : PySem.W.Frag} : SS K (p_codes_5 K) p_codes_5D := ss_dput se_var se_var (se_call sc_of (fun _ => .nil) (sa_cons se_var (sa_cons se_var sa_nil)))
def p_codes_6 (K : PySem.W.Frag) : TS := tAsg (tVar 4) (gName 3)
def p_codes_6D : DS := dAsg (dVar 4) (hName 3)
theorem so_p_codes_6 {K : PySem.W.Frag} : SS K (p_codes_6 K) p_codes_6D := ss_asg se_var sg_name
def p_codes_7 (K : PySem.W.Frag) : TS := tFor (iList K (tCB (rSortedD K) (tCons (tLc (iList K (tVar 0)) (gTup K 2 (gCons (gName 5) (gCons (gName 4) gNil))) tYes (tTup (tCons (tVar 4) (tCons (tVar 5) tNil))) [5, 4]) tNil))) (gTup K 2 (gCons (gName 4) (gCons (gName 5) gNil))) (tSeq (p_codes_4 K) (tSeq (p_codes_5 K) (p_codes_6 K)))
def p_codes_7D : DS := dFor (jList (dCB dSortedD (dCons (dLc false (jList (dVar 0)) (hTup 2 (hCons (hName 5) (hCons (hName 4) hNil))) dYes (dTup (dCons (dVar 4) (dCons (dVar 5) dNil))) [5, 4]) dNil))) (hTup 2 (hCons (hName 4) (hCons (hName 5) hNil))) (dSeq p_codes_4D (dSeq p_codes_5D p_codes_6D))
theorem so_p_codes_7 {K : PySem.W.Frag} : SS K (p_codes_7 K) p_codes_7D := ss_for (si_list (se_cb sb_sortedD (sa_cons (se_lc (si_list se_var) (sg_tup (sgs_cons sg_name (sgs_cons sg_name sgs_nil))) (gw_tup (gws_cons gm_name (gm_cons gm_name gm_nil) gw_name (gws_cons gm_name gm_nil gw_name gws_nil))) st_yes (se_tup (sa_cons se_var (sa_cons se_var sa_nil)))) sa_nil))) (sg_tup (sgs_cons sg_name (sgs_cons sg_name sgs_nil))) (ss_seq so_p_codes_4 (ss_seq so_p_codes_5 so_p_codes_6))
def p_codes_8 (K : PySem.W.Frag) : TS := tRet (tVar 1)
def p_codes_8D : DS := dRet (dVar 1)
theorem so_p_codes_8 {K : PySem.W.Frag} : SS K (p_codes_8 K) p_codes_8D := ss_ret se_var
def p_codes_B (K : PySem.W.Frag) : TS := (tSeq (p_codes_1 K) (tSeq (p_codes_2 K) (tSeq (p_codes_3 K) (tSeq (p_codes_7 K) (p_codes_8 K)))))
def p_codes_BD : DS := (dSeq p_codes_1D (dSeq p_codes_2D (dSeq p_codes_3D (dSeq p_codes_7D p_codes_8D))))
theorem so_p_codes {K : PySem.W.Frag} : SS K (p_codes_B K) p_codes_BD := (ss_seq so_p_codes_1 (ss_seq so_p_codes_2 (ss_seq so_p_codes_3 (ss_seq so_p_codes_7 so_p_codes_8))))
def p_coded_1 (K : PySem.W.Frag) : TS := tAsg (tCall (sp_p_codes K) [] E0 (tCons (tVar 1) tNil)) (gName 2)
def p_coded_1D : DS := dAsg (dCall dp_p_codes [] (dCons (dVar 1) dNil)) (hName 2)
theorem so_p_coded_1 {K : PySem.W.Frag} : SS K (p_coded_1 K) p_coded_1D := ss_asg (se_call sc_of (fun _ => .nil) (sa_cons se_var sa_nil)) sg_name
def p_coded_2 (K : PySem.W.Frag) : TS := tRet (tM1 (rJoin K) (tC (.str "")) (tLc (iList K (tVar 0)) (gName 3) tYes (tDGet (tVar 2) (tVar 3)) [3]))
def p_coded_2D : DS := dRet (dJoin (dC (.d (.str ""))) (dLc false (jList (dVar 0)) (hName 3) dYes (dDGet (dVar 2) (dVar 3)) [3]))
theorem so_p_coded_2 {K : PySem.W.Frag} : SS K (p_coded_2 K) p_coded_2D := ss_ret (se_join se_str (se_lc (si_list se_var) sg_name gw_name st_yes (se_dget se_var se_var)))
def p_coded_B (K : PySem.W.Frag) : TS := (tSeq (p_coded_1 K) (p_coded_2 K))
def p_coded_BD : DS := (dSeq p_coded_1D p_coded_2D)
theorem so_p_coded {K : PySem.W.Frag} : SS K (p_coded_B K) p_coded_BD := (ss_seq so_p_coded_1 so_p_coded_2)
def pen_1 (K : PySem.W.Frag) : TS := tRet (tLst (tCons (tLc (iList K (tSl (rSlL K) (tVar 0) tNoPart (tPart (tC (.int 63))))) (gName 1) tYes (tVar 1) [1]) (tCons (tC (.int 0)) (tCons (tC (.int 0)) tNil))))
def pen_B (K : PySem.W.Frag) : TS := (pen_1 K)
def take_1 (K : PySem.W.Frag) : TS := tAsg (tOp (rI (fun _ j => 0 < j) fun i j => .int (i % j)) (tOp (rIxL K) (tVar 0) (tC (.int 2))) (tVar 1)) (gName 5)
def take_2 (K : PySem.W.Frag) : TS := tAsg (tOp (rI CDivW fun i j => .int (i / j)) (tOp (rIxL K) (tVar 0) (tC (.int 2))) (tVar 1)) (gSub (tVar 0) (tC (.int 2)) rSetL)
def take_3 (K : PySem.W.Frag) : TS := tRet (tVar 5)
def take_4 (K : PySem.W.Frag) : TS := tIfS (tTest (tOp (rI0 fun i j => .bl (decide (j < i))) (tOp (rIxL K) (tVar 0) (tC (.int 2))) (tC (.int 0)))) (tSeq (take_1 K) (tSeq (take_2 K) (take_3 K))) tNext
def take_5 (K : PySem.W.Frag) : TS := tAsg (tOp (rIxL K) (tVar 0) (tC (.int 1))) (gName 2)
def take_6 (K : PySem.W.Frag) : TS := tAsg (tOp (rI0 fun i j => .int (i + j)) (tVar 2) (tC (.int 1))) (gSub (tVar 0) (tC (.int 1)) rSetL)
def take_7 (K : PySem.W.Frag) : TS := tAsg (tOp (rI0 fun i j => .int (i + j)) (tOp (rI CMul fun i j => .int (i * j)) (tC (.int 41)) (tVar 2)) (tC (.int 13))) (gName 3)
def take_8 (K : PySem.W.Frag) : TS := tAsg (tOp (rIxL K) (tOp (rIxL K) (tVar 0) (tC (.int 0))) (tOp (rI (fun _ j => 0 < j) fun i j => .int (i % j)) (tVar 2) (tCB (rLen K) (tCons (tOp (rIxL K) (tVar 0) (tC (.int 0))) tNil)))) (gName 3)
def take_9 (K : PySem.W.Frag) : TS := tIfS (tTest (tOp (rNeD K) (tOp (rIxL K) (tVar 0) (tC (.int 0))) (tLst tNil))) (take_8 K) tNext
def take_10 (K : PySem.W.Frag) : TS := tAsg (tOp (rI0 fun i j => .int (i + j)) (tOp (rI CMul fun i j => .int (i * j)) (tC (.int 2)) (tOp (rI0 fun i j => .int (i - j)) (tCB rAbs (tCons (tVar 3) tNil)) (tOp (rI CPow fun i j => .int (i ^ j.toNat)) (tC (.int 10)) (tC (.int 18))))) (tCB rInt1 (tCons (tOp (rI0 fun i j => .bl (decide (i < j))) (tVar 3) (tC (.int 0))) tNil))) (gName 6)
def take_11 (K : PySem.W.Frag) : TS := tAsg (tOp (rI CDivW fun i j => .int (i / j)) (tVar 6) (tVar 1)) (gSub (tVar 0) (tC (.int 2)) rSetL)
def take_12 (K : PySem.W.Frag) : TS := tRet (tOp (rI (fun _ j => 0 < j) fun i j => .int (i % j)) (tVar 6) (tVar 1))
def take_13 (K : PySem.W.Frag) : TS := tIfS (tAnd (tTest (tOp (rI0 fun i j => .bl (decide (i < j))) (tVar 2) (tCB (rLen K) (tCons (tOp (rIxL K) (tVar 0) (tC (.int 0))) tNil)))) (tTest (tOp (rI0 fun i j => .bl (decide (j ≤ i))) (tCB rAbs (tCons (tVar 3) tNil)) (tOp (rI CPow fun i j => .int (i ^ j.toNat)) (tC (.int 10)) (tC (.int 18)))))) (tSeq (take_10 K) (tSeq (take_11 K) (take_12 K))) tNext
def take_14 (K : PySem.W.Frag) : TS := tAsg (tOp (rI (fun _ j => 0 < j) fun i j => .int (i % j)) (tOp (rI CPow fun i j => .int (i ^ j.toNat)) (tOp (rI0 fun i j => .int (i + j)) (tOp (rI0 fun i j => .int (i + j)) (tOp (rI0 fun i j => .int (i + j)) (tOp (rI (fun _ j => 0 < j) fun i j => .int (i % j)) (tVar 3) (tC (.int 2147483629))) (tOp (rI CMul fun i j => .int (i * j)) (tC (.int 40709)) (tVar 2))) (tOp (rI CMul fun i j => .int (i * j)) (tOp (rI CMul fun i j => .int (i * j)) (tC (.int 7919)) (tVar 2)) (tVar 2))) (tC (.int 31))) (tC (.int 5))) (tC (.int 2147483647))) (gName 4)
def take_15 (K : PySem.W.Frag) : TS := tAsg (tOp (rI (fun _ j => 0 < j) fun i j => .int (i % j)) (tOp (rI CPow fun i j => .int (i ^ j.toNat)) (tOp (rI0 fun i j => .int (i + j)) (tOp (rI0 fun i j => .int (i + j)) (tOp (rI CMul fun i j => .int (i * j)) (tVar 4) (tC (.int 48271))) (tOp (rI CMul fun i j => .int (i * j)) (tC (.int 69621)) (tVar 2))) (tC (.int 11))) (tC (.int 3))) (tC (.int 2147483587))) (gName 4)
def take_16 (K : PySem.W.Frag) : TS := tAsg (tOp (rI CPow fun i j => .int (i ^ j.toNat)) (tOp (rI0 fun i j => .int (i + j)) (tVar 4) (tC (.int 17))) (tC (.int 7))) (gName 4)
def take_17 (K : PySem.W.Frag) : TS := tIfS (tTest (tOp (rI0 fun i j => .bl (decide (j < i))) (tVar 1) (tOp (rI CPow fun i j => .int (i ^ j.toNat)) (tC (.int 10)) (tC (.int 8))))) (take_16 K) tNext
def take_18 (K : PySem.W.Frag) : TS := tRet (tOp (rI (fun _ j => 0 < j) fun i j => .int (i % j)) (tOp (rI CDivW fun i j => .int (i / j)) (tVar 4) (tC (.int 7))) (tVar 1))
def take_B (K : PySem.W.Frag) : TS := (tSeq (take_4 K) (tSeq (take_5 K) (tSeq (take_6 K) (tSeq (take_7 K) (tSeq (take_9 K) (tSeq (take_13 K) (tSeq (take_14 K) (tSeq (take_15 K) (tSeq (take_17 K) (take_18 K))))))))))
def whole_1 (K : PySem.W.Frag) : TS := tRet (tAndV (tCB (rIsi K) (tCons (tVar 0) (tCons (tC (.ty "int")) tNil))) (tAndV (tNotV (tCB (rIsi K) (tCons (tVar 0) (tCons (tC (.ty "bool")) tNil)))) (tChain (rI0 fun i j => .bl (decide (i ≤ j))) (rI0 fun i j => .bl (decide (i ≤ j))) (tVar 1) (tVar 0) (tVar 2))))
def whole_1D : DS := dRet (dAndV (dCB dIsi (dCons (dVar 0) (dCons (dC (.ty "int")) dNil))) (dAndV (dNotV (dCB dIsi (dCons (dVar 0) (dCons (dC (.ty "bool")) dNil)))) (dChain (dI0 fun i j => .bool (decide (i ≤ j))) (dI0 fun i j => .bool (decide (i ≤ j))) (dVar 1) (dVar 0) (dVar 2))))
theorem so_whole_1 {K : PySem.W.Frag} : SS K (whole_1 K) whole_1D := ss_ret (se_and (se_cb sb_isi (sa_cons se_var (sa_cons se_ty sa_nil))) (se_and (se_not (se_cb sb_isi (sa_cons se_var (sa_cons se_ty sa_nil)))) (se_chain sr_I0b sr_I0b se_var se_var se_var)))
def whole_B (K : PySem.W.Frag) : TS := (whole_1 K)
def whole_BD : DS := whole_1D
theorem so_whole {K : PySem.W.Frag} : SS K (whole_B K) whole_BD := so_whole_1
def signs_1 (K : PySem.W.Frag) : TS := tAsg (tCall (sp_take K) [] E0 (tCons (tVar 0) (tCons (tC (.int 3)) tNil))) (gName 3)
def signs_1D : DS := dAsg (dCall dp_takeW [] (dCons (dVar 0) (dCons (dC (.d (.int 3))) dNil))) (hName 3)
theorem so_signs_1 {K : PySem.W.Frag} : SS K (signs_1 K) signs_1D := ss_asg (se_call sc_takeW (fun _ => .nil) (sa_cons se_var (sa_cons se_int sa_nil))) sg_name
def signs_2 (K : PySem.W.Frag) : TS := tAsg (tOp (rI0 fun i j => .int (i - j)) (tC (.int 512)) (tVar 1)) (gName 4)
def signs_2D : DS := dAsg (dOp (dI0 fun i j => .int (i - j)) (dC (.d (.int 512))) (dVar 1)) (hName 4)
theorem so_signs_2 {K : PySem.W.Frag} : SS K (signs_2 K) signs_2D := ss_asg (se_op sr_I0i se_int se_var) sg_name
def signs_3 (K : PySem.W.Frag) : TS := tAsg (tOp (rI0 fun i j => .int (i - j)) (tC (.int 0)) (tC (.int 1))) (gName 5)
def signs_3D : DS := dAsg (dOp (dI0 fun i j => .int (i - j)) (dC (.d (.int 0))) (dC (.d (.int 1)))) (hName 5)
theorem so_signs_3 {K : PySem.W.Frag} : SS K (signs_3 K) signs_3D := ss_asg (se_op sr_I0i se_int se_int) sg_name
def signs_4 (K : PySem.W.Frag) : TS := tAsg (tLst tNil) (gName 6)
def signs_4D : DS := dAsg (dLstO dNil) (hName 6)
theorem so_signs_4 {K : PySem.W.Frag} : SS K (signs_4 K) signs_4D := ss_asg (se_lstO sa_nil) sg_name
def signs_5 (K : PySem.W.Frag) : TS := tAsg (tOp (rIxL K) (tLst (tCons (tC (.int 0)) (tCons (tCB rMin2 (tCons (tVar 4) (tCons (tCall (sp_take K) [] E0 (tCons (tVar 0) (tCons (tC (.int 3)) tNil))) tNil))) (tCons (tCall (sp_take K) [] E0 (tCons (tVar 0) (tCons (tOp (rI0 fun i j => .int (i + j)) (tVar 4) (tC (.int 1))) tNil))) tNil)))) (tVar 3)) (gName 8)
def signs_5D : DS := dAsg (dOp dIx (dLstF (dCons (dC (.d (.int 0))) (dCons (dCB dMin2 (dCons (dVar 4) (dCons (dCall dp_takeW [] (dCons (dVar 0) (dCons (dC (.d (.int 3))) dNil))) dNil))) (dCons (dCall dp_takeW [] (dCons (dVar 0) (dCons (dOp (dI0 fun i j => .int (i + j)) (dVar 4) (dC (.d (.int 1)))) dNil))) dNil)))) (dVar 3)) (hName 8)
theorem so_signs_5 {K : PySem.W.Frag} : SS K (signs_5 K) signs_5D := ss_asg (se_op sr_ix (se_lstF (sa_cons se_int (sa_cons (se_cb sb_min2 (sa_cons se_var (sa_cons (se_call sc_takeW (fun _ => .nil) (sa_cons se_var (sa_cons se_int sa_nil))) sa_nil))) (sa_cons (se_call sc_takeW (fun _ => .nil) (sa_cons se_var (sa_cons (se_op sr_I0i se_var se_int) sa_nil))) sa_nil)))) se_var) sg_name
def signs_6 (K : PySem.W.Frag) : TS := tAsg (tVar 4) (gName 8)
def signs_6D : DS := dAsg (dVar 4) (hName 8)
theorem so_signs_6 {K : PySem.W.Frag} : SS K (signs_6 K) signs_6D := ss_asg se_var sg_name
def signs_7 (K : PySem.W.Frag) : TS := tIfS (tAnd (tTest (tOp (rEqD K) (tVar 7) (tC (.int 0)))) (tTest (tOp (rEqD K) (tOp (rI (fun _ j => 0 < j) fun i j => .int (i % j)) (tVar 2) (tC (.int 3))) (tC (.int 0))))) (signs_6 K) tNext
def signs_7D : DS := dIfS (dAnd (dTest (dOp (dEq false) (dVar 7) (dC (.d (.int 0))))) (dTest (dOp (dEq false) (dOp (dI (fun _ j => 0 < j) fun i j => .int (i % j)) (dVar 2) (dC (.d (.int 3)))) (dC (.d (.int 0)))))) signs_6D dNext
theorem so_signs_7 {K : PySem.W.Frag} : SS K (signs_7 K) signs_7D := ss_if (st_and (st_test (se_op sr_eq se_var se_int)) (st_test (se_op sr_eq (se_op sr_I se_var se_int) se_int))) so_signs_6 ss_next
def signs_8 (K : PySem.W.Frag) : TS := tAsg (tOp (rI0 fun i j => .int (i - j)) (tVar 4) (tVar 8)) (gName 4)
def signs_8D : DS := dAsg (dOp (dI0 fun i j => .int (i - j)) (dVar 4) (dVar 8)) (hName 4)
theorem so_signs_8 {K : PySem.W.Frag} : SS K (signs_8 K) signs_8D := ss_asg (se_op sr_I0i se_var se_var) sg_name
def signs_9 (K : PySem.W.Frag) : TS := tAsg (tOp (rI0 fun i j => .int (i + j)) (tOp (rI0 fun i j => .int (i + j)) (tVar 5) (tC (.int 1))) (tVar 8)) (gName 5)
def signs_9D : DS := dAsg (dOp (dI0 fun i j => .int (i + j)) (dOp (dI0 fun i j => .int (i + j)) (dVar 5) (dC (.d (.int 1)))) (dVar 8)) (hName 5)
theorem so_signs_9 {K : PySem.W.Frag} : SS K (signs_9 K) signs_9D := ss_asg (se_op sr_I0i (se_op sr_I0i se_var se_int) se_var) sg_name
def signs_10 (K : PySem.W.Frag) : TS := tDrop (tBM K "list" rAppend (tVar 6) (tCons (tVar 5) tNil))
def signs_10D : DS := dDrop (dBM ownT dAppend (dVar 6) (dCons (dVar 5) dNil))
theorem so_signs_10 {K : PySem.W.Frag} : SS K (signs_10 K) signs_10D := ss_drop (se_bm sm_append se_var (sa_cons se_var sa_nil))
def signs_11 (K : PySem.W.Frag) : TS := tFor (iRng1 (tCons (tVar 1) tNil)) (gName 7) (tSeq (signs_5 K) (tSeq (signs_7 K) (tSeq (signs_8 K) (tSeq (signs_9 K) (signs_10 K)))))
def signs_11D : DS := dFor (jRng1 (dCons (dVar 1) dNil)) (hName 7) (dSeq signs_5D (dSeq signs_7D (dSeq signs_8D (dSeq signs_9D signs_10D))))
theorem so_signs_11 {K : PySem.W.Frag} : SS K (signs_11 K) signs_11D := ss_for (si_rng1 (sa_cons se_var sa_nil)) sg_name (ss_seq so_signs_5 (ss_seq so_signs_7 (ss_seq so_signs_8 (ss_seq so_signs_9 so_signs_10))))
def signs_12 (K : PySem.W.Frag) : TS := tRet (tVar 6)
def signs_12D : DS := dRet (dEsc (dVar 6))
theorem so_signs_12 {K : PySem.W.Frag} : SS K (signs_12 K) signs_12D := ss_ret (se_esc se_var)
def signs_B (K : PySem.W.Frag) : TS := (tSeq (signs_1 K) (tSeq (signs_2 K) (tSeq (signs_3 K) (tSeq (signs_4 K) (tSeq (signs_11 K) (signs_12 K))))))
def signs_BD : DS := (dSeq signs_1D (dSeq signs_2D (dSeq signs_3D (dSeq signs_4D (dSeq signs_11D signs_12D)))))
theorem so_signs {K : PySem.W.Frag} : SS K (signs_B K) signs_BD := (ss_seq so_signs_1 (ss_seq so_signs_2 (ss_seq so_signs_3 (ss_seq so_signs_4 (ss_seq so_signs_11 so_signs_12)))))
def size_1 (K : PySem.W.Frag) : TS := tAsg (tCall (sp_take K) [] E0 (tCons (tVar 0) (tCons (tC (.int 60)) tNil))) (gName 2)
def size_1D : DS := dAsg (dCall dp_takeW [] (dCons (dVar 0) (dCons (dC (.d (.int 60))) dNil))) (hName 2)
theorem so_size_1 {K : PySem.W.Frag} : SS K (size_1 K) size_1D := ss_asg (se_call sc_takeW (fun _ => .nil) (sa_cons se_var (sa_cons se_int sa_nil))) sg_name
def size_2 (K : PySem.W.Frag) : TS := tRet (tC (.int 300))
def size_2D : DS := dRet (dC (.d (.int 300)))
theorem so_size_2 {K : PySem.W.Frag} : SS K (size_2 K) size_2D := ss_ret se_int
def size_3 (K : PySem.W.Frag) : TS := tIfS (tTest (tOp (rEqD K) (tVar 1) (tC (.int 15)))) (size_2 K) tNext
def size_3D : DS := dIfS (dTest (dOp (dEq false) (dVar 1) (dC (.d (.int 15))))) size_2D dNext
theorem so_size_3 {K : PySem.W.Frag} : SS K (size_3 K) size_3D := ss_if (st_test (se_op sr_eq se_var se_int)) so_size_2 ss_next
def size_4 (K : PySem.W.Frag) : TS := tRet (tOp (rIxL K) (tLst (tCons (tC (.int 1)) (tCons (tC (.int 2)) (tCons (tOp (rI0 fun i j => .int (i + j)) (tC (.int 1)) (tOp (rI (fun _ j => 0 < j) fun i j => .int (i % j)) (tVar 2) (tC (.int 12)))) (tCons (tOp (rI0 fun i j => .int (i + j)) (tC (.int 1)) (tOp (rI (fun _ j => 0 < j) fun i j => .int (i % j)) (tVar 2) (tC (.int 12)))) (tCons (tOp (rI0 fun i j => .int (i + j)) (tC (.int 1)) (tOp (rI (fun _ j => 0 < j) fun i j => .int (i % j)) (tVar 2) (tC (.int 12)))) (tCons (tOp (rI0 fun i j => .int (i + j)) (tC (.int 1)) (tVar 2)) (tCons (tOp (rI0 fun i j => .int (i + j)) (tC (.int 1)) (tVar 2)) (tCons (tC (.int 3)) tNil))))))))) (tOp (rI (fun _ j => 0 < j) fun i j => .int (i % j)) (tVar 1) (tC (.int 8))))
def size_4D : DS := dRet (dOp dIx (dLstF (dCons (dC (.d (.int 1))) (dCons (dC (.d (.int 2))) (dCons (dOp (dI0 fun i j => .int (i + j)) (dC (.d (.int 1))) (dOp (dI (fun _ j => 0 < j) fun i j => .int (i % j)) (dVar 2) (dC (.d (.int 12))))) (dCons (dOp (dI0 fun i j => .int (i + j)) (dC (.d (.int 1))) (dOp (dI (fun _ j => 0 < j) fun i j => .int (i % j)) (dVar 2) (dC (.d (.int 12))))) (dCons (dOp (dI0 fun i j => .int (i + j)) (dC (.d (.int 1))) (dOp (dI (fun _ j => 0 < j) fun i j => .int (i % j)) (dVar 2) (dC (.d (.int 12))))) (dCons (dOp (dI0 fun i j => .int (i + j)) (dC (.d (.int 1))) (dVar 2)) (dCons (dOp (dI0 fun i j => .int (i + j)) (dC (.d (.int 1))) (dVar 2)) (dCons (dC (.d (.int 3))) dNil))))))))) (dOp (dI (fun _ j => 0 < j) fun i j => .int (i % j)) (dVar 1) (dC (.d (.int 8)))))
theorem so_size_4 {K : PySem.W.Frag} : SS K (size_4 K) size_4D := ss_ret (se_op sr_ix (se_lstF (sa_cons se_int (sa_cons se_int (sa_cons (se_op sr_I0i se_int (se_op sr_I se_var se_int)) (sa_cons (se_op sr_I0i se_int (se_op sr_I se_var se_int)) (sa_cons (se_op sr_I0i se_int (se_op sr_I se_var se_int)) (sa_cons (se_op sr_I0i se_int se_var) (sa_cons (se_op sr_I0i se_int se_var) (sa_cons se_int sa_nil))))))))) (se_op sr_I se_var se_int))
def size_B (K : PySem.W.Frag) : TS := (tSeq (size_1 K) (tSeq (size_3 K) (size_4 K)))
def size_BD : DS := (dSeq size_1D (dSeq size_3D size_4D))
theorem so_size {K : PySem.W.Frag} : SS K (size_B K) size_BD := (ss_seq so_size_1 (ss_seq so_size_3 so_size_4))
def leaves_1 (K : PySem.W.Frag) : TS := tRet (tLst (tCons (tC (.int 1)) tNil))
def leaves_1D : DS := dRet (dLstO (dCons (dC (.d (.int 1))) dNil))
theorem so_leaves_1 {K : PySem.W.Frag} : SS K (leaves_1 K) leaves_1D := ss_ret (se_lstO (sa_cons se_int sa_nil))
def leaves_2 (K : PySem.W.Frag) : TS := tIfS (tTest (tOp (rEqD K) (tVar 1) (tC (.int 1)))) (leaves_1 K) tNext
def leaves_2D : DS := dIfS (dTest (dOp (dEq false) (dVar 1) (dC (.d (.int 1))))) leaves_1D dNext
theorem so_leaves_2 {K : PySem.W.Frag} : SS K (leaves_2 K) leaves_2D := ss_if (st_test (se_op sr_eq se_var se_int)) so_leaves_1 ss_next
def leaves_3 (K : PySem.W.Frag) : TS := tAsg (tCall (sp_take K) [] E0 (tCons (tVar 0) (tCons (tC (.int 3)) tNil))) (gName 2)
def leaves_3D : DS := dAsg (dCall dp_takeW [] (dCons (dVar 0) (dCons (dC (.d (.int 3))) dNil))) (hName 2)
theorem so_leaves_3 {K : PySem.W.Frag} : SS K (leaves_3 K) leaves_3D := ss_asg (se_call sc_takeW (fun _ => .nil) (sa_cons se_var (sa_cons se_int sa_nil))) sg_name
def leaves_4 (K : PySem.W.Frag) : TS := tAsg (tLst (tCons (tC (.int 0)) tNil)) (gName 3)
def leaves_4D : DS := dAsg (dLstO (dCons (dC (.d (.int 0))) dNil)) (hName 3)
theorem so_leaves_4 {K : PySem.W.Frag} : SS K (leaves_4 K) leaves_4D := ss_asg (se_lstO (sa_cons se_int sa_nil)) sg_name
def leaves_5 (K : PySem.W.Frag) : TS := tAsg (tOp (rIxL K) (tLst (tCons (tOp (rI0 fun i j => .int (i - j)) (tCB (rLen K) (tCons (tVar 3) tNil)) (tC (.int 1))) (tCons (tCall (sp_take K) [] E0 (tCons (tVar 0) (tCons (tCB (rLen K) (tCons (tVar 3) tNil)) tNil))) (tCons (tBM K "list" (rIndex K) (tVar 3) (tCons (tCB (rMin K) (tCons (tVar 3) tNil)) tNil)) tNil)))) (tVar 2)) (gName 4)
def leaves_5D : DS := dAsg (dOp dIx (dLstF (dCons (dOp (dI0 fun i j => .int (i - j)) (dCB dLen (dCons (dVar 3) dNil)) (dC (.d (.int 1)))) (dCons (dCall dp_takeW [] (dCons (dVar 0) (dCons (dCB dLen (dCons (dVar 3) dNil)) dNil))) (dCons (dBM ownT dIndexI (dVar 3) (dCons (dCB dMin (dCons (dVar 3) dNil)) dNil)) dNil)))) (dVar 2)) (hName 4)
theorem so_leaves_5 {K : PySem.W.Frag} : SS K (leaves_5 K) leaves_5D := ss_asg (se_op sr_ix (se_lstF (sa_cons (se_op sr_I0i (se_cb sb_len (sa_cons se_var sa_nil)) se_int) (sa_cons (se_call sc_takeW (fun _ => .nil) (sa_cons se_var (sa_cons (se_cb sb_len (sa_cons se_var sa_nil)) sa_nil))) (sa_cons (se_bm sm_indexI se_var (sa_cons (se_cb sb_min (sa_cons se_var sa_nil)) sa_nil)) sa_nil)))) se_var) sg_name
def leaves_6 (K : PySem.W.Frag) : TS := tAsg (tBM K "list" (rIndex K) (tVar 3) (tCons (tCB (rMin K) (tCons (tVar 3) tNil)) tNil)) (gName 4)
def leaves_6D : DS := dAsg (dBM ownT dIndexI (dVar 3) (dCons (dCB dMin (dCons (dVar 3) dNil)) dNil)) (hName 4)
theorem so_leaves_6 {K : PySem.W.Frag} : SS K (leaves_6 K) leaves_6D := ss_asg (se_bm sm_indexI se_var (sa_cons (se_cb sb_min (sa_cons se_var sa_nil)) sa_nil)) sg_name
def leaves_7 (K : PySem.W.Frag) : TS := tIfS (tTest (tOp (rEqD K) (tOp (rIxL K) (tVar 3) (tVar 4)) (tC (.int 60)))) (leaves_6 K) tNext
def leaves_7D : DS := dIfS (dTest (dOp (dEq false) (dOp dIx (dVar 3) (dVar 4)) (dC (.d (.int 60))))) leaves_6D dNext
theorem so_leaves_7 {K : PySem.W.Frag} : SS K (leaves_7 K) leaves_7D := ss_if (st_test (se_op sr_eq (se_op sr_ix se_var se_var) se_int)) so_leaves_6 ss_next
def leaves_8 (K : PySem.W.Frag) : TS := tAsg (tBM K "list" rPopAt (tVar 3) (tCons (tVar 4) tNil)) (gName 5)
def leaves_8D : DS := dAsg (dBM ownT dPopAt (dVar 3) (dCons (dVar 4) dNil)) (hName 5)
theorem so_leaves_8 {K : PySem.W.Frag} : SS K (leaves_8 K) leaves_8D := ss_asg (se_bm sm_popAt se_var (sa_cons se_var sa_nil)) sg_name
def leaves_9 (K : PySem.W.Frag) : TS := tDrop (tBM K "list" rExtend (tVar 3) (tCons (tLst (tCons (tOp (rI0 fun i j => .int (i + j)) (tVar 5) (tC (.int 1))) (tCons (tOp (rI0 fun i j => .int (i + j)) (tVar 5) (tC (.int 1))) tNil))) tNil))
def leaves_9D : DS := dDrop (dBM ownT dExtend (dVar 3) (dCons (dLstF (dCons (dOp (dI0 fun i j => .int (i + j)) (dVar 5) (dC (.d (.int 1)))) (dCons (dOp (dI0 fun i j => .int (i + j)) (dVar 5) (dC (.d (.int 1)))) dNil))) dNil))
theorem so_leaves_9 {K : PySem.W.Frag} : SS K (leaves_9 K) leaves_9D := ss_drop (se_bm sm_extend se_var (sa_cons (se_lstF (sa_cons (se_op sr_I0i se_var se_int) (sa_cons (se_op sr_I0i se_var se_int) sa_nil))) sa_nil))
def leaves_10 (K : PySem.W.Frag) : TS := tWhile (tTest (tOp (rI0 fun i j => .bl (decide (i < j))) (tCB (rLen K) (tCons (tVar 3) tNil)) (tVar 1))) (tSeq (leaves_5 K) (tSeq (leaves_7 K) (tSeq (leaves_8 K) (leaves_9 K))))
def leaves_10D : DS := dWhile (dTest (dOp (dI0 fun i j => .bool (decide (i < j))) (dCB dLen (dCons (dVar 3) dNil)) (dVar 1))) (dSeq leaves_5D (dSeq leaves_7D (dSeq leaves_8D leaves_9D)))
theorem so_leaves_10 {K : PySem.W.Frag} : SS K (leaves_10 K) leaves_10D := ss_while (st_test (se_op sr_I0b (se_cb sb_len (sa_cons se_var sa_nil)) se_var)) (ss_seq so_leaves_5 (ss_seq so_leaves_7 (ss_seq so_leaves_8 so_leaves_9)))
def leaves_11 (K : PySem.W.Frag) : TS := tRet (tVar 3)
def leaves_11D : DS := dRet (dVar 3)
theorem so_leaves_11 {K : PySem.W.Frag} : SS K (leaves_11 K) leaves_11D := ss_ret se_var
def leaves_B (K : PySem.W.Frag) : TS := (tSeq (leaves_2 K) (tSeq (leaves_3 K) (tSeq (leaves_4 K) (tSeq (leaves_10 K) (leaves_11 K)))))
def leaves_BD : DS := (dSeq leaves_2D (dSeq leaves_3D (dSeq leaves_4D (dSeq leaves_10D leaves_11D))))
theorem so_leaves {K : PySem.W.Frag} : SS K (leaves_B K) leaves_BD := (ss_seq so_leaves_2 (ss_seq so_leaves_3 (ss_seq so_leaves_4 (ss_seq so_leaves_10 so_leaves_11))))
def full_1 (K : PySem.W.Frag) : TS := tAsg (tCall (sp_take K) [] E0 (tCons (tVar 0) (tCons (tC (.int 16)) tNil))) (gName 1)
def full_1D : DS := dAsg (dCall dp_takeW [] (dCons (dVar 0) (dCons (dC (.d (.int 16))) dNil))) (hName 1)
theorem so_full_1 {K : PySem.W.Frag} : SS K (full_1 K) full_1D := ss_asg (se_call sc_takeW (fun _ => .nil) (sa_cons se_var (sa_cons se_int sa_nil))) sg_name
def full_2 (K : PySem.W.Frag) : TS := tAsg (tCall (sp_size K) [] E0 (tCons (tVar 0) (tCons (tVar 1) tNil))) (gName 2)
def full_2D : DS := dAsg (dCall dp_size [] (dCons (dVar 0) (dCons (dVar 1) dNil))) (hName 2)
theorem so_full_2 {K : PySem.W.Frag} : SS K (full_2 K) full_2D := ss_asg (se_call sc_of (fun _ => .nil) (sa_cons se_var (sa_cons se_var sa_nil))) sg_name
def full_3 (K : PySem.W.Frag) : TS := tAsg (tCall (sp_leaves K) [] E0 (tCons (tVar 0) (tCons (tVar 2) tNil))) (gName 3)
def full_3D : DS := dAsg (dCall dp_leaves [] (dCons (dVar 0) (dCons (dVar 2) dNil))) (hName 3)
theorem so_full_3 {K : PySem.W.Frag} : SS K (full_3 K) full_3D := ss_asg (se_call sc_of (fun _ => .nil) (sa_cons se_var (sa_cons se_var sa_nil))) sg_name
def full_4 (K : PySem.W.Frag) : TS := tAsg (tLst tNil) (gName 4)
def full_4D : DS := dAsg (dLstO dNil) (hName 4)
theorem so_full_4 {K : PySem.W.Frag} : SS K (full_4 K) full_4D := ss_asg (se_lstO sa_nil) sg_name
def full_5 (K : PySem.W.Frag) : TS := tDrop (tBM K "list" rAppend (tVar 4) (tCons (tTup (tCons (tVar 5) (tCons (tBM K "list" rPopAt (tVar 3) (tCons (tCall (sp_take K) [] E0 (tCons (tVar 0) (tCons (tCB (rLen K) (tCons (tVar 3) tNil)) tNil))) tNil)) tNil))) tNil))
def full_5D : DS := dDrop (dBM ownT dAppend (dVar 4) (dCons (dTup (dCons (dVar 5) (dCons (dBM ownT dPopAt (dVar 3) (dCons (dCall dp_takeW [] (dCons (dVar 0) (dCons (dCB dLen (dCons (dVar 3) dNil)) dNil))) dNil)) dNil))) dNil))
theorem so_full_5 {K : PySem.W.Frag} : SS K (full_5 K) full_5D := ss_drop (se_bm sm_append se_var (sa_cons (se_tup (sa_cons se_var (sa_cons (se_bm sm_popAt se_var (sa_cons (se_call sc_takeW (fun _ => .nil) (sa_cons se_var (sa_cons (se_cb sb_len (sa_cons se_var sa_nil)) sa_nil))) sa_nil)) sa_nil))) sa_nil))
def full_6 (K : PySem.W.Frag) : TS := tFor (iList K (tCall (sp_signs K) [] E0 (tCons (tVar 0) (tCons (tVar 2) (tCons (tVar 1) tNil))))) (gName 5) (full_5 K)
def full_6D : DS := dFor (jList (dCall dp_signs [] (dCons (dVar 0) (dCons (dVar 2) (dCons (dVar 1) dNil))))) (hName 5) full_5D
theorem so_full_6 {K : PySem.W.Frag} : SS K (full_6 K) full_6D := ss_for (si_list (se_call sc_of (fun _ => .nil) (sa_cons se_var (sa_cons se_var (sa_cons se_var sa_nil))))) sg_name so_full_5
def full_7 (K : PySem.W.Frag) : TS := tRet (tVar 4)
def full_7D : DS := dRet (dEsc (dVar 4))
theorem so_full_7 {K : PySem.W.Frag} : SS K (full_7 K) full_7D := ss_ret (se_esc se_var)
def full_B (K : PySem.W.Frag) : TS := (tSeq (full_1 K) (tSeq (full_2 K) (tSeq (full_3 K) (tSeq (full_4 K) (tSeq (full_6 K) (full_7 K))))))
def full_BD : DS := (dSeq full_1D (dSeq full_2D (dSeq full_3D (dSeq full_4D (dSeq full_6D full_7D)))))
theorem so_full {K : PySem.W.Frag} : SS K (full_B K) full_BD := (ss_seq so_full_1 (ss_seq so_full_2 (ss_seq so_full_3 (ss_seq so_full_4 (ss_seq so_full_6 so_full_7)))))
def bits_1 (K : PySem.W.Frag) : TS := tAsg (tC (.str "")) (gName 2)
def bits_1D : DS := dAsg (dC (.d (.str ""))) (hName 2)
theorem so_bits_1 {K : PySem.W.Frag} : SS K (bits_1 K) bits_1D := ss_asg se_str sg_name
def bits_2 (K : PySem.W.Frag) : TS := tAsg (tOp (fun x y H Q => ∃ i j, x = .str i ∧ y = .str j ∧ i.length + j.length ≤ sizeLine ∧ Q (.str (i ++ j)) H) (tOp rIxS (tC (.str "01")) (tOp (rI (fun _ j => 0 < j) fun i j => .int (i % j)) (tVar 0) (tC (.int 2)))) (tVar 2)) (gName 2)
def bits_2D : DS := dAsg (dOp dAddS (dOp dIxS (dC (.d (.str "01"))) (dOp (dI (fun _ j => 0 < j) fun i j => .int (i % j)) (dVar 0) (dC (.d (.int 2))))) (dVar 2)) (hName 2)
theorem so_bits_2 {K : PySem.W.Frag} : SS K (bits_2 K) bits_2D := ss_asg (se_op sr_addS (se_op sr_ixS se_str (se_op sr_I se_var se_int)) se_var) sg_name
def bits_3 (K : PySem.W.Frag) : TS := tAsg (tOp (rI CDivW fun i j => .int (i / j)) (tVar 0) (tC (.int 2))) (gName 0)
def bits_3D : DS := dAsg (dOp (dI CDivW fun i j => .int (i / j)) (dVar 0) (dC (.d (.int 2)))) (hName 0)
theorem so_bits_3 {K : PySem.W.Frag} : SS K (bits_3 K) bits_3D := ss_asg (se_op sr_I se_var se_int) sg_name
def bits_4 (K : PySem.W.Frag) : TS := tFor (iRng1 (tCons (tVar 1) tNil)) (gName 3) (tSeq (bits_2 K) (bits_3 K))
def bits_4D : DS := dFor (jRng1 (dCons (dVar 1) dNil)) (hName 3) (dSeq bits_2D bits_3D)
theorem so_bits_4 {K : PySem.W.Frag} : SS K (bits_4 K) bits_4D := ss_for (si_rng1 (sa_cons se_var sa_nil)) sg_name (ss_seq so_bits_2 so_bits_3)
def bits_5 (K : PySem.W.Frag) : TS := tRet (tVar 2)
def bits_5D : DS := dRet (dVar 2)
theorem so_bits_5 {K : PySem.W.Frag} : SS K (bits_5 K) bits_5D := ss_ret se_var
def bits_B (K : PySem.W.Frag) : TS := (tSeq (bits_1 K) (tSeq (bits_4 K) (bits_5 K)))
def bits_BD : DS := (dSeq bits_1D (dSeq bits_4D bits_5D))
theorem so_bits {K : PySem.W.Frag} : SS K (bits_B K) bits_BD := (ss_seq so_bits_1 (ss_seq so_bits_4 so_bits_5))
def codes_1 (K : PySem.W.Frag) : TS := tAsg tDNewK (gName 1)
def codes_1D : DS := dAsg (dDNewO false) (hName 1)
theorem so_codes_1 {K : PySem.W.Frag} : SS K (codes_1 K) codes_1D := ss_asg se_dnewOK sg_name
def codes_2 (K : PySem.W.Frag) : TS := tAsg (tOp (rI0 fun i j => .int (i - j)) (tC (.int 0)) (tC (.int 1))) (gName 2)
def codes_2D : DS := dAsg (dOp (dI0 fun i j => .int (i - j)) (dC (.d (.int 0))) (dC (.d (.int 1)))) (hName 2)
theorem so_codes_2 {K : PySem.W.Frag} : SS K (codes_2 K) codes_2D := ss_asg (se_op sr_I0i se_int se_int) sg_name
def codes_3 (K : PySem.W.Frag) : TS := tAsg (tC (.int 0)) (gName 3)
def codes_3D : DS := dAsg (dC (.d (.int 0))) (hName 3)
theorem so_codes_3 {K : PySem.W.Frag} : SS K (codes_3 K) codes_3D := ss_asg se_int sg_name
def codes_4 (K : PySem.W.Frag) : TS := tAsg (tOp (rI0 fun i j => .int (i + j)) (tVar 2) (tC (.int 1))) (gName 2)
def codes_4D : DS := dAsg (dOp (dI0 fun i j => .int (i + j)) (dVar 2) (dC (.d (.int 1)))) (hName 2)
theorem so_codes_4 {K : PySem.W.Frag} : SS K (codes_4 K) codes_4D := ss_asg (se_op sr_I0i se_var se_int) sg_name
def codes_5 (K : PySem.W.Frag) : TS := tAsg (tOp (rI CMul fun i j => .int (i * j)) (tC (.int 2)) (tVar 2)) (gName 2)
def codes_5D : DS := dAsg (dOp (dI CMul fun i j => .int (i * j)) (dC (.d (.int 2))) (dVar 2)) (hName 2)
theorem so_codes_5 {K : PySem.W.Frag} : SS K (codes_5 K) codes_5D := ss_asg (se_op sr_I se_int se_var) sg_name
def codes_6 (K : PySem.W.Frag) : TS := tFor (iRng1 (tCons (tOp (rI0 fun i j => .int (i - j)) (tVar 4) (tVar 3)) tNil)) (gName 6) (codes_5 K)
def codes_6D : DS := dFor (jRng1 (dCons (dOp (dI0 fun i j => .int (i - j)) (dVar 4) (dVar 3)) dNil)) (hName 6) codes_5D
theorem so_codes_6 {K : PySem.W.Frag} : SS K (codes_6 K) codes_6D := ss_for (si_rng1 (sa_cons (se_op sr_I0i se_var se_var) sa_nil)) sg_name so_codes_5
def codes_7 (K : PySem.W.Frag) : TS := tAsg (tVar 4) (gName 3)
def codes_7D : DS := dAsg (dVar 4) (hName 3)
theorem so_codes_7 {K : PySem.W.Frag} : SS K (codes_7 K) codes_7D := ss_asg se_var sg_name
def codes_8 (K : PySem.W.Frag) : TS := sDPut (tVar 1) (tVar 5) (tCall (sp_bits K) [] E0 (tCons (tVar 2) (tCons (tVar 4) tNil)))
def codes_8D : DS := dDPut (dVar 1) (dVar 5) (dCall dp_bits [] (dCons (dVar 2) (dCons (dVar 4) dNil)))
theorem so_codes_8 {K : PySem.W.Frag} : SS K (codes_8 K) codes_8D := ss_dput se_var se_var (se_call sc_of (fun _ => .nil) (sa_cons se_var (sa_cons se_var sa_nil)))
def codes_9 (K : PySem.W.Frag) : TS := tFor (iList K (tCB (rSortedD K) (tCons (tLc (iList K (tVar 0)) (gTup K 2 (gCons (gName 5) (gCons (gName 4) gNil))) tYes (tTup (tCons (tVar 4) (tCons (tVar 5) tNil))) [5, 4]) tNil))) (gTup K 2 (gCons (gName 4) (gCons (gName 5) gNil))) (tSeq (codes_4 K) (tSeq (codes_6 K) (tSeq (codes_7 K) (codes_8 K))))
def codes_9D : DS := dFor (jList (dCB dSortedD (dCons (dLc false (jList (dVar 0)) (hTup 2 (hCons (hName 5) (hCons (hName 4) hNil))) dYes (dTup (dCons (dVar 4) (dCons (dVar 5) dNil))) [5, 4]) dNil))) (hTup 2 (hCons (hName 4) (hCons (hName 5) hNil))) (dSeq codes_4D (dSeq codes_6D (dSeq codes_7D codes_8D)))
theorem so_codes_9 {K : PySem.W.Frag} : SS K (codes_9 K) codes_9D := ss_for (si_list (se_cb sb_sortedD (sa_cons (se_lc (si_list se_var) (sg_tup (sgs_cons sg_name (sgs_cons sg_name sgs_nil))) (gw_tup (gws_cons gm_name (gm_cons gm_name gm_nil) gw_name (gws_cons gm_name gm_nil gw_name gws_nil))) st_yes (se_tup (sa_cons se_var (sa_cons se_var sa_nil)))) sa_nil))) (sg_tup (sgs_cons sg_name (sgs_cons sg_name sgs_nil))) (ss_seq so_codes_4 (ss_seq so_codes_6 (ss_seq so_codes_7 so_codes_8)))
def codes_10 (K : PySem.W.Frag) : TS := tRet (tVar 1)
def codes_10D : DS := dRet (dVar 1)
theorem so_codes_10 {K : PySem.W.Frag} : SS K (codes_10 K) codes_10D := ss_ret se_var
def codes_B (K : PySem.W.Frag) : TS := (tSeq (codes_1 K) (tSeq (codes_2 K) (tSeq (codes_3 K) (tSeq (codes_9 K) (codes_10 K)))))
def codes_BD : DS := (dSeq codes_1D (dSeq codes_2D (dSeq codes_3D (dSeq codes_9D codes_10D))))
theorem so_codes {K : PySem.W.Frag} : SS K (codes_B K) codes_BD := (ss_seq so_codes_1 (ss_seq so_codes_2 (ss_seq so_codes_3 (ss_seq so_codes_9 so_codes_10))))
def right_1 (K : PySem.W.Frag) : TS := tAsg (tCall (sp_codes K) [] E0 (tCons (tVar 0) tNil)) (gName 1)
def right_1D : DS := dAsg (dCall dp_codes [] (dCons (dVar 0) dNil)) (hName 1)
theorem so_right_1 {K : PySem.W.Frag} : SS K (right_1 K) right_1D := ss_asg (se_call sc_of (fun _ => .nil) (sa_cons se_var sa_nil)) sg_name
def right_2 (K : PySem.W.Frag) : TS := tAsg (tCall (sp_p_codes K) [] E0 (tCons (tVar 0) tNil)) (gName 2)
def right_2D : DS := dAsg (dCall dp_p_codes [] (dCons (dVar 0) dNil)) (hName 2)
theorem so_right_2 {K : PySem.W.Frag} : SS K (right_2 K) right_2D := ss_asg (se_call sc_of (fun _ => .nil) (sa_cons se_var sa_nil)) sg_name
def right_3 (K : PySem.W.Frag) : TS := tRet (tC (.bl false))
def right_3D : DS := dRet (dC (.d (.bool false)))
theorem so_right_3 {K : PySem.W.Frag} : SS K (right_3 K) right_3D := ss_ret se_bl
def right_4 (K : PySem.W.Frag) : TS := tIfS (tOr (tNot (tB (tCB (rIsi K) (tCons (tVar 2) (tCons (tC (.ty "dict")) tNil))))) (tTest (tOp (rNeD K) (tCB rLenK (tCons (tVar 2) tNil)) (tCB (rLen K) (tCons (tVar 0) tNil))))) (right_3 K) tNext
def right_4D : DS := dIfS (dOr (dNot (dTest (dCB dIsiD (dCons (dVar 2) (dCons (dC (.ty "dict")) dNil))))) (dTest (dOp (dEq true) (dCB dLenK (dCons (dVar 2) dNil)) (dCB dLen (dCons (dVar 0) dNil))))) right_3D dNext
theorem so_right_4 {K : PySem.W.Frag} : SS K (right_4 K) right_4D := ss_if (st_or (st_not (st_b (se_cb sb_isiD (sa_cons se_var (sa_cons se_ty sa_nil))))) (st_test (se_op sr_ne (se_cb sb_lenK (sa_cons se_var sa_nil)) (se_cb sb_len (sa_cons se_var sa_nil))))) so_right_3 ss_next
def right_5 (K : PySem.W.Frag) : TS := tRet (tC (.bl false))
def right_5D : DS := dRet (dC (.d (.bool false)))
theorem so_right_5 {K : PySem.W.Frag} : SS K (right_5 K) right_5D := ss_ret se_bl
def right_6 (K : PySem.W.Frag) : TS := tIfS (tOr (tNot (tB (tCB (rIsi K) (tCons (tDGet1 (tVar 2) (tVar 4)) (tCons (tC (.ty "str")) tNil))))) (tTest (tOp (rEqS true) (tDGet (tVar 2) (tVar 4)) (tDGet (tVar 1) (tVar 4))))) (right_5 K) tNext
def right_6D : DS := dIfS (dOr (dNot (dTest (dCB dIsi (dCons (dDGet1 (dVar 2) (dVar 4)) (dCons (dC (.ty "str")) dNil))))) (dTest (dOp (dEqS true) (dDGet (dVar 2) (dVar 4)) (dDGet (dVar 1) (dVar 4))))) right_5D dNext
theorem so_right_6 {K : PySem.W.Frag} : SS K (right_6 K) right_6D := ss_if (st_or (st_not (st_b (se_cb sb_isi (sa_cons (se_dget1 se_var se_var) (sa_cons se_ty sa_nil))))) (st_test (se_op sr_eqS (se_dget se_var se_var) (se_dget se_var se_var)))) so_right_5 ss_next
def right_7 (K : PySem.W.Frag) : TS := tFor (iList K (tVar 0)) (gTup K 2 (gCons (gName 4) (gCons (gName 5) gNil))) (right_6 K)
def right_7D : DS := dFor (jList (dVar 0)) (hTup 2 (hCons (hName 4) (hCons (hName 5) hNil))) right_6D
theorem so_right_7 {K : PySem.W.Frag} : SS K (right_7 K) right_7D := ss_for (si_list se_var) (sg_tup (sgs_cons sg_name (sgs_cons sg_name sgs_nil))) so_right_6
def right_8 (K : PySem.W.Frag) : TS := tRet (tC (.bl false))
def right_8D : DS := dRet (dC (.d (.bool false)))
theorem so_right_8 {K : PySem.W.Frag} : SS K (right_8 K) right_8D := ss_ret se_bl
def right_9 (K : PySem.W.Frag) : TS := tIfS (tTest (tOp (rNil true) (tLockE (tLc (iKeys (tVar 2)) (gName 4) (tNot (tB (tCall (sp_whole K) [] E0 (tCons (tVar 4) (tCons (tC (.int 0)) (tCons (tC (.int 511)) tNil)))))) (tVar 4) [4])) (tLst tNil))) (right_8 K) tNext
def right_9D : DS := dIfS (dTest (dOp dNeNil (dLockE 2 (dLcW false (jKeys (dVar 2)) (hName 4) (dNot (dTest (dCall dp_whole [] (dCons (dVar 4) (dCons (dC (.d (.int 0))) (dCons (dC (.d (.int 511))) dNil)))))) (dVar 4) [4])) (dLstF dNil))) right_8D dNext
theorem so_right_9 {K : PySem.W.Frag} : SS K (right_9 K) right_9D := ss_if (st_test (se_op sr_neNil (se_lock (se_lcW (si_keys se_var) sg_name gw_name (st_not (st_b (se_call sc_of (fun _ => .nil) (sa_cons se_var (sa_cons se_int (sa_cons se_int sa_nil)))))) se_var)) (se_lstF sa_nil))) so_right_8 ss_next
def right_10 (K : PySem.W.Frag) : TS := tAsg (tCB (rSortedSL K) (tCons (tLVals (tVar 2)) tNil)) (gName 3)
def right_10D : DS := dAsg (dCB dSortedSL (dCons (dLVals (dVar 2)) dNil)) (hName 3)
theorem so_right_10 {K : PySem.W.Frag} : SS K (right_10 K) right_10D := ss_asg (se_cb sb_sortedSL (sa_cons (se_lvals se_var) sa_nil)) sg_name
def right_11 (K : PySem.W.Frag) : TS := tRet (tC (.bl false))
def right_11D : DS := dRet (dC (.d (.bool false)))
theorem so_right_11 {K : PySem.W.Frag} : SS K (right_11 K) right_11D := ss_ret se_bl
def right_12 (K : PySem.W.Frag) : TS := tIfS (tB (tM1 rStarts (tVar 7) (tVar 6))) (right_11 K) tNext
def right_12D : DS := dIfS (dTest (dStarts (dVar 7) (dVar 6))) right_11D dNext
theorem so_right_12 {K : PySem.W.Frag} : SS K (right_12 K) right_12D := ss_if (st_b (se_starts se_var se_var)) so_right_11 ss_next
def right_13 (K : PySem.W.Frag) : TS := tFor (iZip K (tCons (tVar 3) (tCons (tSl (rSlL K) (tVar 3) (tPart (tC (.int 1))) tNoPart) tNil))) (gTup K 2 (gCons (gName 6) (gCons (gName 7) gNil))) (right_12 K)
def right_13D : DS := dFor (jZip (dVar 3) (dSl false (dVar 3) (dPart (dC (.d (.int 1)))) dNoPart)) (hTup 2 (hCons (hName 6) (hCons (hName 7) hNil))) right_12D
theorem so_right_13 {K : PySem.W.Frag} : SS K (right_13 K) right_13D := ss_for (si_zip se_var (se_sl se_var (so_some se_int) so_none)) (sg_tup (sgs_cons sg_name (sgs_cons sg_name sgs_nil))) so_right_12
def right_14 (K : PySem.W.Frag) : TS := tRet (tOp rDEq (tCallK (sp_p_codes K) (gK 0 1) E0 tNil (tCons (tVar 0) tNil)) (tVar 2))
def right_14D : DS := dRet (dOp dDEq (dCallK dp_p_codes (gK 0 1) dNil (dCons (dVar 0) dNil)) (dVar 2))
theorem so_right_14 {K : PySem.W.Frag} : SS K (right_14 K) right_14D := ss_ret (se_op sr_deq (se_callK sc_of gK_rel sa_nil (sa_cons se_var sa_nil)) se_var)
def right_B (K : PySem.W.Frag) : TS := (tSeq (right_1 K) (tSeq (right_2 K) (tSeq (right_4 K) (tSeq (right_7 K) (tSeq (right_9 K) (tSeq (right_10 K) (tSeq (right_13 K) (right_14 K))))))))
def right_BD : DS := (dSeq right_1D (dSeq right_2D (dSeq right_4D (dSeq right_7D (dSeq right_9D (dSeq right_10D (dSeq right_13D right_14D)))))))
theorem so_right {K : PySem.W.Frag} : SS K (right_B K) right_BD := (ss_seq so_right_1 (ss_seq so_right_2 (ss_seq so_right_4 (ss_seq so_right_7 (ss_seq so_right_9 (ss_seq so_right_10 (ss_seq so_right_13 so_right_14)))))))
def law_1 (K : PySem.W.Frag) : TS := tAsg (tCall (sp_pen K) [] E0 (tCons (tVar 0) tNil)) (gName 1)
def law_2 (K : PySem.W.Frag) : TS := tAsg (tCall (sp_full K) [] E0 (tCons (tVar 1) tNil)) (gName 3)
def law_2D : DS := dAsg (dCall dp_full [] (dCons (dVar 1) dNil)) (hName 3)
theorem so_law_2 {K : PySem.W.Frag} : SS K (law_2 K) law_2D := ss_asg (se_call sc_of (fun _ => .nil) (sa_cons se_var sa_nil)) sg_name
def law_3 (K : PySem.W.Frag) : TS := tAsg (tCB (rListOf K) (tCons (tVar 3) tNil)) (gName 4)
def law_3D : DS := dAsg (dCB (dListOf false) (dCons (dVar 3) dNil)) (hName 4)
theorem so_law_3 {K : PySem.W.Frag} : SS K (law_3 K) law_3D := ss_asg (se_cb sb_listOf (sa_cons se_var sa_nil)) sg_name
def law_4 (K : PySem.W.Frag) : TS := tRet (tC (.bl false))
def law_4D : DS := dRet (dC (.d (.bool false)))
theorem so_law_4 {K : PySem.W.Frag} : SS K (law_4 K) law_4D := ss_ret se_bl
def law_5 (K : PySem.W.Frag) : TS := tIfS (tNot (tB (tCall (sp_right K) [] E0 (tCons (tVar 3) tNil)))) (law_4 K) tNext
def law_5D : DS := dIfS (dNot (dTest (dCall dp_right [] (dCons (dVar 3) dNil)))) law_4D dNext
theorem so_law_5 {K : PySem.W.Frag} : SS K (law_5 K) law_5D := ss_if (st_not (st_b (se_call sc_of (fun _ => .nil) (sa_cons se_var sa_nil)))) so_law_4 ss_next
def law_6 (K : PySem.W.Frag) : TS := tAsg (tCall (sp_codes K) [] E0 (tCons (tVar 3) tNil)) (gName 5)
def law_6D : DS := dAsg (dCall dp_codes [] (dCons (dVar 3) dNil)) (hName 5)
theorem so_law_6 {K : PySem.W.Frag} : SS K (law_6 K) law_6D := ss_asg (se_call sc_of (fun _ => .nil) (sa_cons se_var sa_nil)) sg_name
def law_7 (K : PySem.W.Frag) : TS := tAsg (tLc (iRng1 (tCons (tCall (sp_take K) [] E0 (tCons (tVar 1) (tCons (tC (.int 31)) tNil))) tNil)) (gName 8) tYes (tOp (rIxT K) (tOp (rIxL K) (tVar 3) (tCall (sp_take K) [] E0 (tCons (tVar 1) (tCons (tCB (rLen K) (tCons (tVar 3) tNil)) tNil)))) (tC (.int 0))) [8]) (gName 6)
def law_7D : DS := dAsg (dLc false (jRng1 (dCons (dCall dp_takeW [] (dCons (dVar 1) (dCons (dC (.d (.int 31))) dNil))) dNil)) (hName 8) dYes (dOp dIxT (dOp dIx (dVar 3) (dCall dp_takeW [] (dCons (dVar 1) (dCons (dCB dLen (dCons (dVar 3) dNil)) dNil)))) (dC (.d (.int 0)))) [8]) (hName 6)
theorem so_law_7 {K : PySem.W.Frag} : SS K (law_7 K) law_7D := ss_asg (se_lc (si_rng1 (sa_cons (se_call sc_takeW (fun _ => .nil) (sa_cons se_var (sa_cons se_int sa_nil))) sa_nil)) sg_name gw_name st_yes (se_op sr_ixT (se_op sr_ix se_var (se_call sc_takeW (fun _ => .nil) (sa_cons se_var (sa_cons (se_cb sb_len (sa_cons se_var sa_nil)) sa_nil)))) se_int)) sg_name
def law_8 (K : PySem.W.Frag) : TS := tAsg (tCall (sp_p_coded K) [] E0 (tCons (tVar 6) (tCons (tVar 3) tNil))) (gName 7)
def law_8D : DS := dAsg (dCall dp_p_coded [] (dCons (dVar 6) (dCons (dVar 3) dNil))) (hName 7)
theorem so_law_8 {K : PySem.W.Frag} : SS K (law_8 K) law_8D := ss_asg (se_call sc_of (fun _ => .nil) (sa_cons se_var (sa_cons se_var sa_nil))) sg_name
def law_9 (K : PySem.W.Frag) : TS := tRet (tC (.bl false))
def law_9D : DS := dRet (dC (.d (.bool false)))
theorem so_law_9 {K : PySem.W.Frag} : SS K (law_9 K) law_9D := ss_ret se_bl
def law_10 (K : PySem.W.Frag) : TS := tIfS (tOr (tNot (tB (tCB (rIsi K) (tCons (tVar 7) (tCons (tC (.ty "str")) tNil))))) (tOr (tTest (tOp (rEqS true) (tVar 7) (tM1 (rJoin K) (tC (.str "")) (tLc (iList K (tVar 6)) (gName 9) tYes (tDGet (tVar 5) (tVar 9)) [9])))) (tTest (tOp (rNeD K) (tVar 3) (tVar 4))))) (law_9 K) tNext
def law_10D : DS := dIfS (dOr (dNot (dTest (dCB dIsi (dCons (dVar 7) (dCons (dC (.ty "str")) dNil))))) (dOr (dTest (dOp (dEqS true) (dVar 7) (dJoin (dC (.d (.str ""))) (dLc false (jList (dVar 6)) (hName 9) dYes (dDGet (dVar 5) (dVar 9)) [9])))) (dTest (dOp (dEq true) (dVar 3) (dVar 4))))) law_9D dNext
theorem so_law_10 {K : PySem.W.Frag} : SS K (law_10 K) law_10D := ss_if (st_or (st_not (st_b (se_cb sb_isi (sa_cons se_var (sa_cons se_ty sa_nil))))) (st_or (st_test (se_op sr_eqS se_var (se_join se_str (se_lc (si_list se_var) sg_name gw_name st_yes (se_dget se_var se_var))))) (st_test (se_op sr_ne se_var se_var)))) so_law_9 ss_next
def law_11 (K : PySem.W.Frag) : TS := tRet (tC (.bl false))
def law_11D : DS := dRet (dC (.d (.bool false)))
theorem so_law_11 {K : PySem.W.Frag} : SS K (law_11 K) law_11D := ss_ret se_bl
def law_12 (K : PySem.W.Frag) : TS := tIfS (tOr (tTest (tOp (rEqS true) (tCallK (sp_p_coded K) (gP 0 [1, 0]) E0 tNil (tCons (tVar 3) (tCons (tVar 6) tNil))) (tVar 7))) (tTest (tOp (rEqS true) (tCall (sp_p_coded K) [] E0 (tCons (tLst tNil) (tCons (tVar 3) tNil))) (tC (.str ""))))) (law_11 K) tNext
def law_12D : DS := dIfS (dOr (dTest (dOp (dEqS true) (dCallK dp_p_coded (gP 0 [1, 0]) dNil (dCons (dVar 3) (dCons (dVar 6) dNil))) (dVar 7))) (dTest (dOp (dEqS true) (dCall dp_p_coded [] (dCons (dLstF dNil) (dCons (dVar 3) dNil))) (dC (.d (.str "")))))) law_11D dNext
theorem so_law_12 {K : PySem.W.Frag} : SS K (law_12 K) law_12D := ss_if (st_or (st_test (se_op sr_eqS (se_callK sc_of gP_rel sa_nil (sa_cons se_var (sa_cons se_var sa_nil))) se_var)) (st_test (se_op sr_eqS (se_call sc_of (fun _ => .nil) (sa_cons (se_lstF sa_nil) (sa_cons se_var sa_nil))) se_str))) so_law_11 ss_next
def law_13 (K : PySem.W.Frag) : TS := tFor (iRng1 (tCons (tC (.int 3)) tNil)) (gName 2) (tSeq (law_2 K) (tSeq (law_3 K) (tSeq (law_5 K) (tSeq (law_6 K) (tSeq (law_7 K) (tSeq (law_8 K) (tSeq (law_10 K) (law_12 K))))))))
def law_13D : DS := dFor (jRng1 (dCons (dC (.d (.int 3))) dNil)) (hName 2) (dSeq law_2D (dSeq law_3D (dSeq law_5D (dSeq law_6D (dSeq law_7D (dSeq law_8D (dSeq law_10D law_12D)))))))
theorem so_law_13 {K : PySem.W.Frag} : SS K (law_13 K) law_13D := ss_for (si_rng1 (sa_cons se_int sa_nil)) sg_name (ss_seq so_law_2 (ss_seq so_law_3 (ss_seq so_law_5 (ss_seq so_law_6 (ss_seq so_law_7 (ss_seq so_law_8 (ss_seq so_law_10 so_law_12)))))))
def law_14 (K : PySem.W.Frag) : TS := tRet (tOp rDEq (tCall (sp_p_codes K) [] E0 (tCons (tLst (tCons (tTup (tCons (tC (.int 5)) (tCons (tC (.int 1)) tNil))) tNil)) tNil)) (tDisp [(tC (.int 5), (tC (.str "0")))]))
def law_14D : DS := dRet (dOp dDEq (dCall dp_p_codes [] (dCons (dLstF (dCons (dTup (dCons (dC (.d (.int 5))) (dCons (dC (.d (.int 1))) dNil))) dNil)) dNil)) (dDispS 5 "0"))
theorem so_law_14 {K : PySem.W.Frag} : SS K (law_14 K) law_14D := ss_ret (se_op sr_deq (se_call sc_of (fun _ => .nil) (sa_cons (se_lstF (sa_cons (se_tup (sa_cons se_int (sa_cons se_int sa_nil))) sa_nil)) sa_nil)) se_dispS)
def law_R (K : PySem.W.Frag) : TS := (tSeq (law_13 K) (law_14 K))
def law_RD : DS := (dSeq law_13D law_14D)
theorem so_law_R {K : PySem.W.Frag} : SS K (law_R K) law_RD := (ss_seq so_law_13 so_law_14)
def law_B (K : PySem.W.Frag) : TS := tSeq (law_1 K) (law_R K)

end K41

namespace K41
open PySem PySem.Spec PyProof.Rows L2
def top (i : Nat) : Stmt := PySem.Challenge.pw_tornpictures_k41_codes_told.main.body.getD i (.Pass ⟨0, 0, 0, 0⟩)
abbrev s_p_bits_of : Stmt := top 1
theorem sc_p_bits_of : FnScope N_p_bits_of P_p_bits_of (defScope s_p_bits_of) := ⟨rfl, rfl, rfl, by decide +kernel, rfl, by decide +kernel, by decide +kernel⟩
set_option maxHeartbeats 4000000 in
theorem tm_p_bits_of {P : Program} {w : World} {K : PySem.W.Frag} {mg : Str → Option Value} {base : Heap} {f : Addr} {cdv : Value} {A : Around} {outer : List Env} {s : Shared} {H : Hp} {E : XK} (B : Bl mg) (hr : Room 0 (A.deeper (envOfC "bits_of" (defScope s_p_bits_of) s.heap.objs.size f cdv))) :
    PSs (cxOf CX0 P w K mg base N_p_bits_of "bits_of" (defScope s_p_bits_of) f cdv A outer s H E).nox (defBody s_p_bits_of) (p_bits_of_B K) :=
  (pss_one (ps_ret (pe_join pe_str (pe_lc (own := [("at", 2)]) (by rfl) sc_p_bits_of.nd (pi_range3 (by rfl) B.range (pa_cons (pe_op op_sub (pv 1) pe_int) (pa_cons (pe_un un_neg pe_int) (pa_cons (pe_un un_neg pe_int) pa_nil)))) (blkOk_by (own := [("at", 2)]) (N := N_p_bits_of) (sc := defScope s_p_bits_of) (by decide +kernel)) (fun _ _ _ _ _ => (pg_name (i := 2) sc_p_bits_of.nd rfl (Or.inl rfl))) (fun _ _ _ _ _ => pts_nil) (fun _ _ _ _ _ => (pe_callTy call_str_int (by rfl) B.str (by decide +kernel) (pa_cons (pe_op op_and (pe_op op_shr (pv 0) (pv 2)) pe_int) pa_nil)))))))
abbrev s_p_codes : Stmt := top 3
theorem sc_p_codes : FnScope N_p_codes P_p_codes (defScope s_p_codes) := ⟨rfl, rfl, rfl, by decide +kernel, rfl, by decide +kernel, by decide +kernel⟩
set_option maxHeartbeats 4000000 in
theorem tm_p_codes {P : Program} {w : World} {K : PySem.W.Frag} {mg : Str → Option Value} {base : Heap} {f : Addr} {cdv : Value} {A : Around} {outer : List Env} {s : Shared} {H : Hp} {E : XK} (B : Bl mg) (C_p_bits_of : Cal P w K mg base "bits_of" 1 P_p_bits_of (sp_p_bits_of K)) (h_sorted : mg "sorted" = none) (hr : Room 1 (A.deeper (envOfC "codes" (defScope s_p_codes) s.heap.objs.size f cdv))) :
    PSs (cxOf CX0 P w K mg base N_p_codes "codes" (defScope s_p_codes) f cdv A outer s H E).nox (defBody s_p_codes) (p_codes_B K) :=
  (pss_cons (ps_set (i := 1) sc_p_codes.nd rfl (Or.inl rfl) pe_dnewK) (pss_cons (ps_set (i := 2) sc_p_codes.nd rfl (Or.inl rfl) (pe_un un_neg pe_int)) (pss_cons (ps_set (i := 3) sc_p_codes.nd rfl (Or.inl rfl) pe_int) (pss_cons (ps_for PassesOwn.never rfl (pi_list (pe_callB (call_sortedD hr) (by rfl) h_sorted (by decide +kernel) (pa_cons (pe_lc (own := [("sign", 5), ("length", 4)]) (by rfl) sc_p_codes.nd (pi_list (pv 0)) (blkOk_by (own := [("sign", 5), ("length", 4)]) (N := N_p_codes) (sc := defScope s_p_codes) (by decide +kernel)) (fun _ _ _ _ _ => (pg_tup (by rfl) (pgs_cons (pg_name (i := 5) sc_p_codes.nd rfl (Or.inl rfl)) (pgs_cons (pg_name (i := 4) sc_p_codes.nd rfl (Or.inl rfl)) pgs_nil)))) (fun _ _ _ _ _ => pts_nil) (fun _ _ _ _ _ => (pe_tup (pa_cons (pv 4) (pa_cons (pv 5) pa_nil))))) pa_nil))) (pg_tup (by rfl) (pgs_cons (pg_name (i := 4) sc_p_codes.nd rfl (Or.inl rfl)) (pgs_cons (pg_name (i := 5) sc_p_codes.nd rfl (Or.inl rfl)) pgs_nil))) (pss_cons (ps_set (i := 2) sc_p_codes.nd rfl (Or.inl rfl) (pe_op op_shlB (pe_op op_add (pv 2) pe_int) (pe_op op_sub (pv 4) (pv 3)))) (pss_cons (ps_dput (hu_of hr) (pv 1) (pv 5) (pe_cal C_p_bits_of (hr.mono (by decide)) (by rfl) (pa_cons (pv 2) (pa_cons (pv 4) pa_nil))) (by rfl)) (pss_one (ps_set (i := 3) sc_p_codes.nd rfl (Or.inl rfl) (pv 4)))))) (pss_one (ps_ret (pv 1)))))))
abbrev s_p_coded : Stmt := top 4
theorem sc_p_coded : FnScope N_p_coded P_p_coded (defScope s_p_coded) := ⟨rfl, rfl, rfl, by decide +kernel, rfl, by decide +kernel, by decide +kernel⟩
set_option maxHeartbeats 4000000 in
theorem tm_p_coded {P : Program} {w : World} {K : PySem.W.Frag} {mg : Str → Option Value} {base : Heap} {f : Addr} {cdv : Value} {A : Around} {outer : List Env} {s : Shared} {H : Hp} {E : XK} (B : Bl mg) (C_p_codes : CalW P w K mg base "codes" 2 P_p_codes (sp_p_codes K) (BF_p_codes K)) (hr : Room 2 (A.deeper (envOfC "coded" (defScope s_p_coded) s.heap.objs.size f cdv))) :
    PSs (cxOf CX0 P w K mg base N_p_coded "coded" (defScope s_p_coded) f cdv A outer s H E).nox (defBody s_p_coded) (p_coded_B K) :=
  (pss_cons (ps_set (i := 2) sc_p_coded.nd rfl (Or.inr rfl) (pe_calP C_p_codes (fun _ h => h.p) (hr.mono (by decide)) (by rfl) (pa_cons (pv 1) pa_nil))) (pss_one (ps_ret (pe_join pe_str (pe_lc (own := [("sign", 3)]) (by rfl) sc_p_coded.nd (pi_list (pv 0)) (blkOk_by (own := [("sign", 3)]) (N := N_p_coded) (sc := defScope s_p_coded) (by decide +kernel)) (fun _ _ _ _ _ => (pg_name (i := 3) sc_p_coded.nd rfl (Or.inl rfl))) (fun _ _ _ _ _ => pts_nil) (fun _ _ _ _ _ => (pe_dget (hu_of hr) (pv 2) (pv 3) (fun _ _ => rfl))))))))
abbrev s_pen : Stmt := top 6
theorem sc_pen : FnScope N_pen P_pen (defScope s_pen) := ⟨rfl, rfl, rfl, by decide +kernel, rfl, by decide +kernel, by decide +kernel⟩
set_option maxHeartbeats 4000000 in
theorem tm_pen {P : Program} {w : World} {K : PySem.W.Frag} {mg : Str → Option Value} {base : Heap} {f : Addr} {cdv : Value} {A : Around} {outer : List Env} {s : Shared} {H : Hp} {E : XK} (B : Bl mg) (hr : Room 0 (A.deeper (envOfC "_law_pen" (defScope s_pen) s.heap.objs.size f cdv))) :
    PSs (cxOf CX0 P w K mg base N_pen "_law_pen" (defScope s_pen) f cdv A outer s H E).nox (defBody s_pen) (pen_B K) :=
  (pss_one (ps_ret (pe_lst (pa_cons (pe_lc (own := [("_law_cell", 1)]) (by rfl) sc_pen.nd (pi_list (pe_slice sl_list (pv 0) po_none (po_some pe_int))) (blkOk_by (own := [("_law_cell", 1)]) (N := N_pen) (sc := defScope s_pen) (by decide +kernel)) (fun _ _ _ _ _ => (pg_name (i := 1) sc_pen.nd rfl (Or.inl rfl))) (fun _ _ _ _ _ => pts_nil) (fun _ _ _ _ _ => (pv 1))) (pa_cons pe_int (pa_cons pe_int pa_nil))))))
abbrev s_take : Stmt := top 7
theorem sc_take : FnScope N_take P_take (defScope s_take) := ⟨rfl, rfl, rfl, by decide +kernel, rfl, by decide +kernel, by decide +kernel⟩
set_option maxHeartbeats 4000000 in
theorem tm_take {P : Program} {w : World} {K : PySem.W.Frag} {mg : Str → Option Value} {base : Heap} {f : Addr} {cdv : Value} {A : Around} {outer : List Env} {s : Shared} {H : Hp} {E : XK} (B : Bl mg) (hr : Room 0 (A.deeper (envOfC "_law_take" (defScope s_take) s.heap.objs.size f cdv))) :
    PSs (cxOf CX0 P w K mg base N_take "_law_take" (defScope s_take) f cdv A outer s H E).nox (defBody s_take) (take_B K) :=
  (pss_cons (ps_if (pt_cmpR op_gt (pe_ix ix_list (pv 0) pe_int (fun _ _ => rfl)) pe_int (nomark _)) (pss_cons (ps_set (i := 5) sc_take.nd rfl (Or.inl rfl) (pe_op op_mod (pe_ix ix_list (pv 0) pe_int (fun _ _ => rfl)) (pv 1))) (pss_cons (ps_asg (pe_op op_fdivW (pe_ix ix_list (pv 0) pe_int (fun _ _ => rfl)) (pv 1)) (pg_sub (pv 0) pe_int set_list)) (pss_one (ps_ret (pv 5))))) pss_nil) (pss_cons (ps_set (i := 2) sc_take.nd rfl (Or.inl rfl) (pe_ix ix_list (pv 0) pe_int (fun _ _ => rfl))) (pss_cons (ps_asg (pe_op op_add (pv 2) pe_int) (pg_sub (pv 0) pe_int set_list)) (pss_cons (ps_set (i := 3) sc_take.nd rfl (Or.inl rfl) (pe_op op_add (pe_op op_mul pe_int (pv 2)) pe_int)) (pss_cons (ps_if (pt_cmpR (op_neD hr.units) (pe_ix ix_list (pv 0) pe_int (fun _ _ => rfl)) (pe_lst pa_nil) (nomark _)) (pss_one (ps_set (i := 3) sc_take.nd rfl (Or.inl rfl) (pe_ix ix_list (pe_ix ix_list (pv 0) pe_int (fun _ _ => rfl)) (pe_op op_mod (pv 2) (pe_callB call_len (by rfl) B.len (by decide +kernel) (pa_cons (pe_ix ix_list (pv 0) pe_int (fun _ _ => rfl)) pa_nil))) (fun _ _ => rfl)))) pss_nil) (pss_cons (ps_if (PW.pt (pw_and (pt_cmpR op_lt (pv 2) (pe_callB call_len (by rfl) B.len (by decide +kernel) (pa_cons (pe_ix ix_list (pv 0) pe_int (fun _ _ => rfl)) pa_nil)) (nomark _)) (pw_and1 (pt_cmpR op_ge (pe_callB call_abs (by rfl) B.abs (by decide +kernel) (pa_cons (pv 3) pa_nil)) (pe_op op_pow pe_int pe_int) (nomark _))))) (pss_cons (ps_set (i := 6) sc_take.nd rfl (Or.inl rfl) (pe_op op_add (pe_op op_mul pe_int (pe_op op_sub (pe_callB call_abs (by rfl) B.abs (by decide +kernel) (pa_cons (pv 3) pa_nil)) (pe_op op_pow pe_int pe_int))) (pe_callTy call_int1 (by rfl) B.int (by decide +kernel) (pa_cons (pe_cmpR op_lt (pv 3) pe_int (nomark _)) pa_nil)))) (pss_cons (ps_asg (pe_op op_fdivW (pv 6) (pv 1)) (pg_sub (pv 0) pe_int set_list)) (pss_one (ps_ret (pe_op op_mod (pv 6) (pv 1)))))) pss_nil) (pss_cons (ps_set (i := 4) sc_take.nd rfl (Or.inl rfl) (pe_op op_mod (pe_op op_pow (pe_op op_add (pe_op op_add (pe_op op_add (pe_op op_mod (pv 3) pe_int) (pe_op op_mul pe_int (pv 2))) (pe_op op_mul (pe_op op_mul pe_int (pv 2)) (pv 2))) pe_int) pe_int) pe_int)) (pss_cons (ps_set (i := 4) sc_take.nd rfl (Or.inl rfl) (pe_op op_mod (pe_op op_pow (pe_op op_add (pe_op op_add (pe_op op_mul (pv 4) pe_int) (pe_op op_mul pe_int (pv 2))) pe_int) pe_int) pe_int)) (pss_cons (ps_if (pt_cmpR op_gt (pv 1) (pe_op op_pow pe_int pe_int) (nomark _)) (pss_one (ps_set (i := 4) sc_take.nd rfl (Or.inl rfl) (pe_op op_pow (pe_op op_add (pv 4) pe_int) pe_int))) pss_nil) (pss_one (ps_ret (pe_op op_mod (pe_op op_fdivW (pv 4) pe_int) (pv 1)))))))))))))
abbrev s_whole : Stmt := top 8
theorem sc_whole : FnScope N_whole P_whole (defScope s_whole) := ⟨rfl, rfl, rfl, by decide +kernel, rfl, by decide +kernel, by decide +kernel⟩
set_option maxHeartbeats 4000000 in
theorem tm_whole {P : Program} {w : World} {K : PySem.W.Frag} {mg : Str → Option Value} {base : Heap} {f : Addr} {cdv : Value} {A : Around} {outer : List Env} {s : Shared} {H : Hp} {E : XK} (B : Bl mg) (hr : Room 0 (A.deeper (envOfC "_law_whole" (defScope s_whole) s.heap.objs.size f cdv))) :
    PSs (cxOf CX0 P w K mg base N_whole "_law_whole" (defScope s_whole) f cdv A outer s H E).nox (defBody s_whole) (whole_B K) :=
  (pss_one (ps_ret (pe_and (pe_callB call_isinst (by rfl) B.isinstance (by decide +kernel) (pa_cons (pv 0) (pa_cons (pe_bltn (v := .ty "int") (by rfl) B.int (by decide +kernel) rfl) pa_nil))) (pe_and (pe_not (pe_callB call_isinst (by rfl) B.isinstance (by decide +kernel) (pa_cons (pv 0) (pa_cons (pe_bltn (v := .ty "bool") (by rfl) B.bool (by decide +kernel) rfl) pa_nil)))) (pe_one (pe_chain op_le op_le (pv 1) (pv 0) (pv 2)))))))
abbrev s_signs : Stmt := top 9
theorem sc_signs : FnScope N_signs P_signs (defScope s_signs) := ⟨rfl, rfl, rfl, by decide +kernel, rfl, by decide +kernel, by decide +kernel⟩
set_option maxHeartbeats 4000000 in
theorem tm_signs {P : Program} {w : World} {K : PySem.W.Frag} {mg : Str → Option Value} {base : Heap} {f : Addr} {cdv : Value} {A : Around} {outer : List Env} {s : Shared} {H : Hp} {E : XK} (B : Bl mg) (C_take : Cal P w K mg base "_law_take" 1 P_take (sp_take K)) (hr : Room 1 (A.deeper (envOfC "_law_signs" (defScope s_signs) s.heap.objs.size f cdv))) :
    PSs (cxOf CX0 P w K mg base N_signs "_law_signs" (defScope s_signs) f cdv A outer s H E).nox (defBody s_signs) (signs_B K) :=
  (pss_cons (ps_set (i := 3) sc_signs.nd rfl (Or.inl rfl) (pe_cal C_take (hr.mono (by decide)) (by rfl) (pa_cons (pv 0) (pa_cons pe_int pa_nil)))) (pss_cons (ps_set (i := 4) sc_signs.nd rfl (Or.inl rfl) (pe_op op_sub pe_int (pv 1))) (pss_cons (ps_set (i := 5) sc_signs.nd rfl (Or.inl rfl) (pe_op op_sub pe_int pe_int)) (pss_cons (ps_set (i := 6) sc_signs.nd rfl (Or.inl rfl) (pe_lst pa_nil)) (pss_cons (ps_for PassesOwn.never rfl (pi_range1 (by rfl) B.range (pa_cons (pv 1) pa_nil)) (pg_name (i := 7) sc_signs.nd rfl (Or.inl rfl)) (pss_cons (ps_set (i := 8) sc_signs.nd rfl (Or.inl rfl) (pe_ix ix_list (pe_lst (pa_cons pe_int (pa_cons (pe_callB (call_min2 rfl) (by rfl) B.min (by decide +kernel) (pa_cons (pv 4) (pa_cons (pe_cal C_take (hr.mono (by decide)) (by rfl) (pa_cons (pv 0) (pa_cons pe_int pa_nil))) pa_nil))) (pa_cons (pe_cal C_take (hr.mono (by decide)) (by rfl) (pa_cons (pv 0) (pa_cons (pe_op op_add (pv 4) pe_int) pa_nil))) pa_nil)))) (pv 3) (fun _ _ => rfl))) (pss_cons (ps_if (PW.pt (pw_and (pt_cmpR (op_eqD hr.units) (pv 7) pe_int (nomark _)) (pw_and1 (pt_cmpR (op_eqD hr.units) (pe_op op_mod (pv 2) pe_int) pe_int (nomark _))))) (pss_one (ps_set (i := 8) sc_signs.nd rfl (Or.inl rfl) (pv 4))) pss_nil) (pss_cons (ps_set (i := 4) sc_signs.nd rfl (Or.inl rfl) (pe_op op_sub (pv 4) (pv 8))) (pss_cons (ps_set (i := 5) sc_signs.nd rfl (Or.inl rfl) (pe_op op_add (pe_op op_add (pv 5) pe_int) (pv 8))) (pss_one (ps_expr (pe_bm PySem.F.plainAttrs_list PySem.F.slot_list_append PySem.F.type_list_append mt_append (pv 6) (pa_cons (pv 5) pa_nil))))))))) (pss_one (ps_ret (pv 6))))))))
abbrev s_size : Stmt := top 10
theorem sc_size : FnScope N_size P_size (defScope s_size) := ⟨rfl, rfl, rfl, by decide +kernel, rfl, by decide +kernel, by decide +kernel⟩
set_option maxHeartbeats 4000000 in
theorem tm_size {P : Program} {w : World} {K : PySem.W.Frag} {mg : Str → Option Value} {base : Heap} {f : Addr} {cdv : Value} {A : Around} {outer : List Env} {s : Shared} {H : Hp} {E : XK} (B : Bl mg) (C_take : Cal P w K mg base "_law_take" 1 P_take (sp_take K)) (hr : Room 1 (A.deeper (envOfC "_law_size" (defScope s_size) s.heap.objs.size f cdv))) :
    PSs (cxOf CX0 P w K mg base N_size "_law_size" (defScope s_size) f cdv A outer s H E).nox (defBody s_size) (size_B K) :=
  (pss_cons (ps_set (i := 2) sc_size.nd rfl (Or.inl rfl) (pe_cal C_take (hr.mono (by decide)) (by rfl) (pa_cons (pv 0) (pa_cons pe_int pa_nil)))) (pss_cons (ps_if (pt_cmpR (op_eqD hr.units) (pv 1) pe_int (nomark _)) (pss_one (ps_ret pe_int)) pss_nil) (pss_one (ps_ret (pe_ix ix_list (pe_lst (pa_cons pe_int (pa_cons pe_int (pa_cons (pe_op op_add pe_int (pe_op op_mod (pv 2) pe_int)) (pa_cons (pe_op op_add pe_int (pe_op op_mod (pv 2) pe_int)) (pa_cons (pe_op op_add pe_int (pe_op op_mod (pv 2) pe_int)) (pa_cons (pe_op op_add pe_int (pv 2)) (pa_cons (pe_op op_add pe_int (pv 2)) (pa_cons pe_int pa_nil))))))))) (pe_op op_mod (pv 1) pe_int) (fun _ _ => rfl))))))
abbrev s_leaves : Stmt := top 11
theorem sc_leaves : FnScope N_leaves P_leaves (defScope s_leaves) := ⟨rfl, rfl, rfl, by decide +kernel, rfl, by decide +kernel, by decide +kernel⟩
set_option maxHeartbeats 4000000 in
theorem tm_leaves {P : Program} {w : World} {K : PySem.W.Frag} {mg : Str → Option Value} {base : Heap} {f : Addr} {cdv : Value} {A : Around} {outer : List Env} {s : Shared} {H : Hp} {E : XK} (B : Bl mg) (C_take : Cal P w K mg base "_law_take" 1 P_take (sp_take K)) (hr : Room 1 (A.deeper (envOfC "_law_leaves" (defScope s_leaves) s.heap.objs.size f cdv))) :
    PSs (cxOf CX0 P w K mg base N_leaves "_law_leaves" (defScope s_leaves) f cdv A outer s H E).nox (defBody s_leaves) (leaves_B K) :=
  (pss_cons (ps_if (pt_cmpR (op_eqD hr.units) (pv 1) pe_int (nomark _)) (pss_one (ps_ret (pe_lst (pa_cons pe_int pa_nil)))) pss_nil) (pss_cons (ps_set (i := 2) sc_leaves.nd rfl (Or.inl rfl) (pe_cal C_take (hr.mono (by decide)) (by rfl) (pa_cons (pv 0) (pa_cons pe_int pa_nil)))) (pss_cons (ps_set (i := 3) sc_leaves.nd rfl (Or.inl rfl) (pe_lst (pa_cons pe_int pa_nil))) (pss_cons (ps_while PassesOwn.never (pt_cmpR op_lt (pe_callB call_len (by rfl) B.len (by decide +kernel) (pa_cons (pv 3) pa_nil)) (pv 1) (nomark _)) (pss_cons (ps_set (i := 4) sc_leaves.nd rfl (Or.inl rfl) (pe_ix ix_list (pe_lst (pa_cons (pe_op op_sub (pe_callB call_len (by rfl) B.len (by decide +kernel) (pa_cons (pv 3) pa_nil)) pe_int) (pa_cons (pe_cal C_take (hr.mono (by decide)) (by rfl) (pa_cons (pv 0) (pa_cons (pe_callB call_len (by rfl) B.len (by decide +kernel) (pa_cons (pv 3) pa_nil)) pa_nil))) (pa_cons (pe_bm PySem.F.plainAttrs_list PySem.F.slot_list_index PySem.F.type_list_index mt_index (pv 3) (pa_cons (pe_callB (cr_min rfl) (by rfl) B.min (by decide +kernel) (pa_cons (pv 3) pa_nil)) pa_nil)) pa_nil)))) (pv 2) (fun _ _ => rfl))) (pss_cons (ps_if (pt_cmpR (op_eqD hr.units) (pe_ix ix_list (pv 3) (pv 4) (fun _ _ => rfl)) pe_int (nomark _)) (pss_one (ps_set (i := 4) sc_leaves.nd rfl (Or.inl rfl) (pe_bm PySem.F.plainAttrs_list PySem.F.slot_list_index PySem.F.type_list_index mt_index (pv 3) (pa_cons (pe_callB (cr_min rfl) (by rfl) B.min (by decide +kernel) (pa_cons (pv 3) pa_nil)) pa_nil)))) pss_nil) (pss_cons (ps_set (i := 5) sc_leaves.nd rfl (Or.inl rfl) (pe_bm PySem.F.plainAttrs_list PySem.F.slot_list_pop PySem.F.type_list_pop mt_popAt (pv 3) (pa_cons (pv 4) pa_nil))) (pss_one (ps_expr (pe_bm PySem.F.plainAttrs_list PySem.F.slot_list_extend PySem.F.type_list_extend mt_extend (pv 3) (pa_cons (pe_lst (pa_cons (pe_op op_add (pv 5) pe_int) (pa_cons (pe_op op_add (pv 5) pe_int) pa_nil))) pa_nil)))))))) (pss_one (ps_ret (pv 3)))))))
abbrev s_full : Stmt := top 12
theorem sc_full : FnScope N_full P_full (defScope s_full) := ⟨rfl, rfl, rfl, by decide +kernel, rfl, by decide +kernel, by decide +kernel⟩
set_option maxHeartbeats 4000000 in
theorem tm_full {P : Program} {w : World} {K : PySem.W.Frag} {mg : Str → Option Value} {base : Heap} {f : Addr} {cdv : Value} {A : Around} {outer : List Env} {s : Shared} {H : Hp} {E : XK} (B : Bl mg) (C_take : Cal P w K mg base "_law_take" 1 P_take (sp_take K)) (C_signs : Cal P w K mg base "_law_signs" 2 P_signs (sp_signs K)) (C_size : Cal P w K mg base "_law_size" 2 P_size (sp_size K)) (C_leaves : Cal P w K mg base "_law_leaves" 2 P_leaves (sp_leaves K)) (hr : Room 2 (A.deeper (envOfC "_law_full" (defScope s_full) s.heap.objs.size f cdv))) :
    PSs (cxOf CX0 P w K mg base N_full "_law_full" (defScope s_full) f cdv A outer s H E).nox (defBody s_full) (full_B K) :=
  (pss_cons (ps_set (i := 1) sc_full.nd rfl (Or.inl rfl) (pe_cal C_take (hr.mono (by decide)) (by rfl) (pa_cons (pv 0) (pa_cons pe_int pa_nil)))) (pss_cons (ps_set (i := 2) sc_full.nd rfl (Or.inl rfl) (pe_cal C_size (hr.mono (by decide)) (by rfl) (pa_cons (pv 0) (pa_cons (pv 1) pa_nil)))) (pss_cons (ps_set (i := 3) sc_full.nd rfl (Or.inl rfl) (pe_cal C_leaves (hr.mono (by decide)) (by rfl) (pa_cons (pv 0) (pa_cons (pv 2) pa_nil)))) (pss_cons (ps_set (i := 4) sc_full.nd rfl (Or.inl rfl) (pe_lst pa_nil)) (pss_cons (ps_for PassesOwn.never rfl (pi_list (pe_cal C_signs (hr.mono (by decide)) (by rfl) (pa_cons (pv 0) (pa_cons (pv 2) (pa_cons (pv 1) pa_nil))))) (pg_name (i := 5) sc_full.nd rfl (Or.inl rfl)) (pss_one (ps_expr (pe_bm PySem.F.plainAttrs_list PySem.F.slot_list_append PySem.F.type_list_append mt_append (pv 4) (pa_cons (pe_tup (pa_cons (pv 5) (pa_cons (pe_bm PySem.F.plainAttrs_list PySem.F.slot_list_pop PySem.F.type_list_pop mt_popAt (pv 3) (pa_cons (pe_cal C_take (hr.mono (by decide)) (by rfl) (pa_cons (pv 0) (pa_cons (pe_callB call_len (by rfl) B.len (by decide +kernel) (pa_cons (pv 3) pa_nil)) pa_nil))) pa_nil)) pa_nil))) pa_nil))))) (pss_one (ps_ret (pv 4))))))))
abbrev s_bits : Stmt := top 13
theorem sc_bits : FnScope N_bits P_bits (defScope s_bits) := ⟨rfl, rfl, rfl, by decide +kernel, rfl, by decide +kernel, by decide +kernel⟩
set_option maxHeartbeats 4000000 in
theorem tm_bits {P : Program} {w : World} {K : PySem.W.Frag} {mg : Str → Option Value} {base : Heap} {f : Addr} {cdv : Value} {A : Around} {outer : List Env} {s : Shared} {H : Hp} {E : XK} (B : Bl mg) (hr : Room 0 (A.deeper (envOfC "_law_bits" (defScope s_bits) s.heap.objs.size f cdv))) :
    PSs (cxOf CX0 P w K mg base N_bits "_law_bits" (defScope s_bits) f cdv A outer s H E).nox (defBody s_bits) (bits_B K) :=
  (pss_cons (ps_set (i := 2) sc_bits.nd rfl (Or.inl rfl) pe_str) (pss_cons (ps_for PassesOwn.never rfl (pi_range1 (by rfl) B.range (pa_cons (pv 1) pa_nil)) (pg_name (i := 3) sc_bits.nd rfl (Or.inl rfl)) (pss_cons (ps_set (i := 2) sc_bits.nd rfl (Or.inl rfl) (pe_op op_add_str (pe_ix ix_str pe_str (pe_op op_mod (pv 0) pe_int) (fun _ _ => rfl)) (pv 2))) (pss_one (ps_set (i := 0) sc_bits.nd rfl (Or.inl rfl) (pe_op op_fdivW (pv 0) pe_int))))) (pss_one (ps_ret (pv 2)))))
abbrev s_codes : Stmt := top 14
theorem sc_codes : FnScope N_codes P_codes (defScope s_codes) := ⟨rfl, rfl, rfl, by decide +kernel, rfl, by decide +kernel, by decide +kernel⟩
set_option maxHeartbeats 4000000 in
theorem tm_codes {P : Program} {w : World} {K : PySem.W.Frag} {mg : Str → Option Value} {base : Heap} {f : Addr} {cdv : Value} {A : Around} {outer : List Env} {s : Shared} {H : Hp} {E : XK} (B : Bl mg) (C_bits : Cal P w K mg base "_law_bits" 1 P_bits (sp_bits K)) (h_sorted : mg "sorted" = none) (hr : Room 1 (A.deeper (envOfC "_law_codes" (defScope s_codes) s.heap.objs.size f cdv))) :
    PSs (cxOf CX0 P w K mg base N_codes "_law_codes" (defScope s_codes) f cdv A outer s H E).nox (defBody s_codes) (codes_B K) :=
  (pss_cons (ps_set (i := 1) sc_codes.nd rfl (Or.inl rfl) pe_dnewK) (pss_cons (ps_set (i := 2) sc_codes.nd rfl (Or.inl rfl) (pe_op op_sub pe_int pe_int)) (pss_cons (ps_set (i := 3) sc_codes.nd rfl (Or.inl rfl) pe_int) (pss_cons (ps_for PassesOwn.never rfl (pi_list (pe_callB (call_sortedD hr) (by rfl) h_sorted (by decide +kernel) (pa_cons (pe_lc (own := [("_law_sign", 5), ("_law_size_here", 4)]) (by rfl) sc_codes.nd (pi_list (pv 0)) (blkOk_by (own := [("_law_sign", 5), ("_law_size_here", 4)]) (N := N_codes) (sc := defScope s_codes) (by decide +kernel)) (fun _ _ _ _ _ => (pg_tup (by rfl) (pgs_cons (pg_name (i := 5) sc_codes.nd rfl (Or.inl rfl)) (pgs_cons (pg_name (i := 4) sc_codes.nd rfl (Or.inl rfl)) pgs_nil)))) (fun _ _ _ _ _ => pts_nil) (fun _ _ _ _ _ => (pe_tup (pa_cons (pv 4) (pa_cons (pv 5) pa_nil))))) pa_nil))) (pg_tup (by rfl) (pgs_cons (pg_name (i := 4) sc_codes.nd rfl (Or.inl rfl)) (pgs_cons (pg_name (i := 5) sc_codes.nd rfl (Or.inl rfl)) pgs_nil))) (pss_cons (ps_set (i := 2) sc_codes.nd rfl (Or.inl rfl) (pe_op op_add (pv 2) pe_int)) (pss_cons (ps_for PassesOwn.never rfl (pi_range1 (by rfl) B.range (pa_cons (pe_op op_sub (pv 4) (pv 3)) pa_nil)) (pg_name (i := 6) sc_codes.nd rfl (Or.inl rfl)) (pss_one (ps_set (i := 2) sc_codes.nd rfl (Or.inl rfl) (pe_op op_mul pe_int (pv 2))))) (pss_cons (ps_set (i := 3) sc_codes.nd rfl (Or.inl rfl) (pv 4)) (pss_one (ps_dput (hu_of hr) (pv 1) (pv 5) (pe_cal C_bits (hr.mono (by decide)) (by rfl) (pa_cons (pv 2) (pa_cons (pv 4) pa_nil))) (by rfl))))))) (pss_one (ps_ret (pv 1)))))))
abbrev s_right : Stmt := top 15
theorem sc_right : FnScope N_right P_right (defScope s_right) := ⟨rfl, rfl, rfl, by decide +kernel, rfl, by decide +kernel, by decide +kernel⟩
set_option maxHeartbeats 4000000 in
theorem tm_right {P : Program} {w : World} {K : PySem.W.Frag} {mg : Str → Option Value} {base : Heap} {f : Addr} {cdv : Value} {A : Around} {outer : List Env} {s : Shared} {H : Hp} {E : XK} (B : Bl mg) (C_p_codes : CalW P w K mg base "codes" 2 P_p_codes (sp_p_codes K) (BF_p_codes K)) (C_whole : Cal P w K mg base "_law_whole" 1 P_whole (sp_whole K)) (C_codes : Cal P w K mg base "_law_codes" 2 P_codes (sp_codes K)) (h_dict : mg "dict" = none) (h_sorted : mg "sorted" = none) (hr : Room 2 (A.deeper (envOfC "_law_right" (defScope s_right) s.heap.objs.size f cdv))) :
    PSs (cxOf CX0 P w K mg base N_right "_law_right" (defScope s_right) f cdv A outer s H E).nox (defBody s_right) (right_B K) :=
  (pss_cons (ps_set (i := 1) sc_right.nd rfl (Or.inl rfl) (pe_cal C_codes (hr.mono (by decide)) (by rfl) (pa_cons (pv 0) pa_nil))) (pss_cons (ps_set (i := 2) sc_right.nd rfl (Or.inl rfl) (pe_calP C_p_codes (fun _ h => h.p) (hr.mono (by decide)) (by rfl) (pa_cons (pv 0) pa_nil))) (pss_cons (ps_if (PW.pt (pw_or (pt_not (pt_val (pe_callB call_isinst (by rfl) B.isinstance (by decide +kernel) (pa_cons (pv 2) (pa_cons (pe_bltn (v := .ty "dict") (by rfl) h_dict (by decide +kernel) rfl) pa_nil))))) (pw_or1 (pt_cmpR (op_neD hr.units) (pe_callB call_lenK (by rfl) B.len (by decide +kernel) (pa_cons (pv 2) pa_nil)) (pe_callB call_len (by rfl) B.len (by decide +kernel) (pa_cons (pv 0) pa_nil)) (nomark _))))) (pss_one (ps_ret pe_bl)) pss_nil) (pss_cons (ps_for PassesOwn.never rfl (pi_list (pv 0)) (pg_tup (by rfl) (pgs_cons (pg_name (i := 4) sc_right.nd rfl (Or.inl rfl)) (pgs_cons (pg_name (i := 5) sc_right.nd rfl (Or.inl rfl)) pgs_nil))) (pss_one (ps_if (PW.pt (pw_or (pt_not (pt_val (pe_callB call_isinst (by rfl) B.isinstance (by decide +kernel) (pa_cons (pe_dget1 (hu_of hr) (pv 2) (pv 4) ⟨by rfl, by rfl, by rfl, by rfl⟩) (pa_cons (pe_bltn (v := .ty "str") (by rfl) B.str (by decide +kernel) rfl) pa_nil))))) (pw_or1 (pt_cmpR op_neS (pe_dget (hu_of hr) (pv 2) (pv 4) (fun _ _ => rfl)) (pe_dget (hu_of hr) (pv 1) (pv 4) (fun _ _ => rfl)) (nomark _))))) (pss_one (ps_ret pe_bl)) pss_nil))) (pss_cons (ps_if (pt_cmpR (op_neNil hr) (pe_lock (pe_lc (own := [("_law_sign", 4)]) (by rfl) sc_right.nd (pi_keys (pv 2)) (blkOk_by (own := [("_law_sign", 4)]) (N := N_right) (sc := defScope s_right) (by decide +kernel)) (fun _ _ _ _ _ => (pg_name (i := 4) sc_right.nd rfl (Or.inl rfl))) (fun _ _ _ _ _ => (pts_one (pt_not (pt_val (pe_cal C_whole (hr.mono (by decide)) (by rfl) (pa_cons (pv 4) (pa_cons pe_int (pa_cons pe_int pa_nil)))))))) (fun _ _ _ _ _ => (pv 4)))) (pe_lst pa_nil) (nomark _)) (pss_one (ps_ret pe_bl)) pss_nil) (pss_cons (ps_set (i := 3) sc_right.nd rfl (Or.inl rfl) (pe_callB call_sortedSL (by rfl) h_sorted (by decide +kernel) (pa_cons (pe_lvals rfl (by rfl) B.lst (pv 2)) pa_nil))) (pss_cons (ps_for PassesOwn.never rfl (pi_zip (by rfl) B.zip (pa_cons (pv 3) (pa_cons (pe_slice sl_list (pv 3) (po_some pe_int) po_none) pa_nil))) (pg_tup (by rfl) (pgs_cons (pg_name (i := 6) sc_right.nd rfl (Or.inl rfl)) (pgs_cons (pg_name (i := 7) sc_right.nd rfl (Or.inl rfl)) pgs_nil))) (pss_one (ps_if (pt_val (pe_starts (pv 7) (pv 6))) (pss_one (ps_ret pe_bl)) pss_nil))) (pss_one (ps_ret (pe_cmpR (op_deq hr) (pe_calK0' C_p_codes (fun _ h => h.k_0_lengths_of) (hr.mono (by decide)) (by rfl) (pk_cons (pv 0) pk_nil)) (pv 2) (nomark _)))))))))))
abbrev s_law : Stmt := top 16
theorem sc_law : FnScope N_law P_law (defScope s_law) := ⟨rfl, rfl, rfl, by decide +kernel, rfl, by decide +kernel, by decide +kernel⟩
set_option maxHeartbeats 4000000 in
theorem tm_law {P : Program} {w : World} {K : PySem.W.Frag} {mg : Str → Option Value} {base : Heap} {f : Addr} {cdv : Value} {A : Around} {outer : List Env} {s : Shared} {H : Hp} {E : XK} (B : Bl mg) (C_p_codes : CalW P w K mg base "codes" 2 P_p_codes (sp_p_codes K) (BF_p_codes K)) (C_p_coded : CalW P w K mg base "coded" 3 P_p_coded (sp_p_coded K) (BF_p_coded K)) (C_pen : Cal P w K mg base "_law_pen" 1 P_pen (sp_pen K)) (C_take : Cal P w K mg base "_law_take" 1 P_take (sp_take K)) (C_full : Cal P w K mg base "_law_full" 3 P_full (sp_full K)) (C_codes : Cal P w K mg base "_law_codes" 2 P_codes (sp_codes K)) (C_right : Cal P w K mg base "_law_right" 3 P_right (sp_right K)) (hr : Room 3 (A.deeper (envOfC "law" (defScope s_law) s.heap.objs.size f cdv))) :
    PSs (cxOf CX0 P w K mg base N_law "law" (defScope s_law) f cdv A outer s H E).nox (defBody s_law) (law_B K) :=
  (pss_cons (ps_set (i := 1) sc_law.nd rfl (Or.inr rfl) (pe_cal C_pen (hr.mono (by decide)) (by rfl) (pa_cons (pv 0) pa_nil))) (pss_cons (ps_for PassesOwn.never rfl (pi_range1 (by rfl) B.range (pa_cons pe_int pa_nil)) (pg_name (i := 2) sc_law.nd rfl (Or.inl rfl)) (pss_cons (ps_set (i := 3) sc_law.nd rfl (Or.inr rfl) (pe_cal C_full (hr.mono (by decide)) (by rfl) (pa_cons (pv 1) pa_nil))) (pss_cons (ps_set (i := 4) sc_law.nd rfl (Or.inl rfl) (pe_callTy call_list_of (by rfl) B.lst (by decide +kernel) (pa_cons (pv 3) pa_nil))) (pss_cons (ps_if (pt_not (pt_val (pe_cal C_right (hr.mono (by decide)) (by rfl) (pa_cons (pv 3) pa_nil)))) (pss_one (ps_ret pe_bl)) pss_nil) (pss_cons (ps_set (i := 5) sc_law.nd rfl (Or.inr rfl) (pe_cal C_codes (hr.mono (by decide)) (by rfl) (pa_cons (pv 3) pa_nil))) (pss_cons (ps_setLc (i := 6) (own := [("_law_k", 8)]) (by rfl) sc_law.nd rfl rfl (sw_true rfl rfl rfl (by decide +kernel)) (pi_range1 (by rfl) B.range (pa_cons (pe_cal C_take (hr.mono (by decide)) (by rfl) (pa_cons (pv 1) (pa_cons pe_int pa_nil))) pa_nil)) (blkOk_by (own := [("_law_k", 8)]) (N := N_law) (sc := defScope s_law) (by decide +kernel)) (fun _ _ _ _ _ => (pg_name (i := 8) sc_law.nd rfl (Or.inl rfl))) (fun _ _ _ _ _ => pts_nil) (fun _ _ _ _ _ => (pe_ix ix_tup (pe_ix ix_list (pv 3) (pe_cal C_take (hr.mono (by decide)) (by rfl) (pa_cons (pv 1) (pa_cons (pe_callB call_len (by rfl) B.len (by decide +kernel) (pa_cons (pv 3) pa_nil)) pa_nil))) (fun _ _ => rfl)) pe_int (fun _ _ => rfl)))) (pss_cons (ps_set (i := 7) sc_law.nd rfl (Or.inl rfl) (pe_calP C_p_coded (fun _ h => h.p) (hr.mono (by decide)) (by rfl) (pa_cons (pv 6) (pa_cons (pv 3) pa_nil)))) (pss_cons (ps_if (PW.pt (pw_or (pt_not (pt_val (pe_callB call_isinst (by rfl) B.isinstance (by decide +kernel) (pa_cons (pv 7) (pa_cons (pe_bltn (v := .ty "str") (by rfl) B.str (by decide +kernel) rfl) pa_nil))))) (pw_or (pt_cmpR op_neS (pv 7) (pe_join pe_str (pe_lc (own := [("_law_sign", 9)]) (by rfl) sc_law.nd (pi_list (pv 6)) (blkOk_by (own := [("_law_sign", 9)]) (N := N_law) (sc := defScope s_law) (by decide +kernel)) (fun _ _ _ _ _ => (pg_name (i := 9) sc_law.nd rfl (Or.inl rfl))) (fun _ _ _ _ _ => pts_nil) (fun _ _ _ _ _ => (pe_dget (hu_of hr) (pv 5) (pv 9) (fun _ _ => rfl))))) (nomark _)) (pw_or1 (pt_cmpR (op_neD hr.units) (pv 3) (pv 4) (nomark _)))))) (pss_one (ps_ret pe_bl)) pss_nil) (pss_one (ps_if (PW.pt (pw_or (pt_cmpR op_neS (pe_calK0' C_p_coded (fun _ h => h.k_0_lengths_of_signs) (hr.mono (by decide)) (by rfl) (pk_cons (pv 3) (pk_cons (pv 6) pk_nil))) (pv 7) (nomark _)) (pw_or1 (pt_cmpR op_neS (pe_calP C_p_coded (fun _ h => h.p) (hr.mono (by decide)) (by rfl) (pa_cons (pe_lst pa_nil) (pa_cons (pv 3) pa_nil))) pe_str (nomark _))))) (pss_one (ps_ret pe_bl)) pss_nil)))))))))) (pss_one (ps_ret (pe_cmpR (op_deq hr) (pe_calP C_p_codes (fun _ h => h.p) (hr.mono (by decide)) (by rfl) (pa_cons (pe_lst (pa_cons (pe_tup (pa_cons pe_int (pa_cons pe_int pa_nil))) pa_nil)) pa_nil)) (pe_disp (pps_cons pe_int pe_str pps_nil) (by rfl) (by rfl) (fun z => by cases z) (by decide)) (nomark _))))))

end K41

namespace K41
open PySem L2
local macro_rules | `(tactic| walk_at "d") => `(tactic| try simp only [p_bits_of_1D, p_bits_of_BD, p_codes_1D, p_codes_2D, p_codes_3D, p_codes_4D, p_codes_5D, p_codes_6D, p_codes_7D, p_codes_8D, p_codes_BD, p_coded_1D, p_coded_2D, p_coded_BD, whole_1D, whole_BD, signs_1D, signs_2D, signs_3D, signs_4D, signs_5D, signs_6D, signs_7D, signs_8D, signs_9D, signs_10D, signs_11D, signs_12D, signs_BD, size_1D, size_2D, size_3D, size_4D, size_BD, leaves_1D, leaves_2D, leaves_3D, leaves_4D, leaves_5D, leaves_6D, leaves_7D, leaves_8D, leaves_9D, leaves_10D, leaves_11D, leaves_BD, full_1D, full_2D, full_3D, full_4D, full_5D, full_6D, full_7D, full_BD, bits_1D, bits_2D, bits_3D, bits_4D, bits_5D, bits_BD, codes_1D, codes_2D, codes_3D, codes_4D, codes_5D, codes_6D, codes_7D, codes_8D, codes_9D, codes_10D, codes_BD, right_1D, right_2D, right_3D, right_4D, right_5D, right_6D, right_7D, right_8D, right_9D, right_10D, right_11D, right_12D, right_13D, right_14D, right_BD, law_2D, law_3D, law_4D, law_5D, law_6D, law_7D, law_8D, law_9D, law_10D, law_11D, law_12D, law_13D, law_14D, law_RD, dEnds, dVar, dC, dCountI, dOp, dI0, dI, dEq, dEqS, dNeg, dNotV, dAndV, dOrV, dChain, dTest, dAnd, dOr, dNot, dYes, dIf, dNil, dCons, dTup, dLstF, dLstO, dEsc, dEscD, dCall, dCallK, dCallL, dRaise, dTrySet, dTrySetAs, dIdxS, dOpq, jTupA, hStar, dDc, dDGetX, dDGet1, dDGet2, dDAug, dDictO, dForW, dLcW, dDcW, jKeys, dLockE, dLockS, dCallW, CShl,  dSl3S, dSetX, dSetXK, dAsgX, dDropX, dDropXK, dRetX, dRaiseI, dTryH, dHand, dAtX, dIsiXT, dInsert, dGo, dIsiX, DV.ex.injEq,  dUpper, dDisp1, dListS, dEqT, isT_str, dNilT, dInC, dRepZ, dDNewO, dDIn, dDGet, dDPut, dLeT, dLenT, dLenK, dTupV, hTupV, dIxV, vD, Pl, toVs, toV, List.all_cons, List.all_nil, Bool.and_true, Option.bind_some, dCB, dBM, dNoPart, dPart, dIx, dIxT, dIxS, dCat, dCatT, dRep, dRepT, dDNew, dNeNil, dEqNil, dSl3, dAddS, dSl, dSlS, dSlTU, dSl3T, dDct, dCatTU, dLen, dAbs, dMin2, dMax2, dInt1, dIsi, dIsiL, dListOf, dTupleOf, ownT, dAppend, dIndexB, dIndexI, dLRng3, dLRng2, dStar, dIsB, dIsNotB, dIsN, dNotN, isNon_n, isNon_i, dPar, selG, selM, pickS, Df.dat, List.filterMap_cons, List.filterMap_nil, jEnC, dLc2, dLcL, dIn, dExtend, dExtendT, dReverse, dClear, hName, hCons_c, hNil_c, hTup, hLs, hSub, dNext, dSeq, dBreak, dCont, dDrop, dRet, dRetN, dIfS, dNever, dAsg, jList, jTup, jStr, jRng1, jRng2, jRng3, jEnum, jEnumT, jZip, jZipB, sqD, dFor, dForL, dForZ, dGetS, atI_0, atI_1, atI_2, atI_3, dLc, dAug, dStrI, dIntS, dOrd, dJoin, dInS, dCmpS, dSum, dAll, dAny, dRepS, CDivW, CPow, CMul, gK, gP, dwipe, its_d, dat_d, its_po, its_pf, dat_pf, dat_po, lenV_po, lenV_pf, MO.own.injEq, MO.fz.injEq, Mu.at_o, unD_nil, unD_cons, unD_map, unD_mapf, dsi_int_int, dsi_int_bool, dsi_int_list, dsi_int_tuple, dsi_int_str, dsi_bool_int, dsi_bool_bool, dsi_bool_list, dsi_bool_tuple, dsi_bool_str, dsi_str_int, dsi_str_bool, dsi_str_list, dsi_str_tuple, dsi_str_str, dsi_none_int, dsi_none_bool, dsi_none_list, dsi_none_tuple, dsi_none_str, dsi_list_int, dsi_list_bool, dsi_list_list, dsi_list_tuple, dsi_list_str, dsi_dict_int, dsi_dict_bool, dsi_dict_list, dsi_dict_tuple, dsi_dict_str, dsi_tuple_int, dsi_tuple_bool, dsi_tuple_list, dsi_tuple_tuple, dsi_tuple_str, lenV_l, lenV_t, lenV_s, Function.comp_apply, List.length_map, List.length_range, rgI_len, eqv_ii, eqv_bb, shaped_int, shaped_bool, shaped_none, shaped_nil, eqv_nil, Nat.zero_le, cutG_map, Mu.at_n, Mu.at_at, Mu.put_n, Mu.at_put, Mu.put_same, Mu.put_put,
  List.map_cons, List.map_nil, List.append_nil, List.map_map, List.length_cons, List.length_nil, Option.map_some, Option.map_none, List.getElem?_cons_zero, List.getElem?_cons_succ, List.set_cons_zero, List.set_cons_succ, DV.d.injEq, DV.r.injEq, DV.ty.injEq, PyData.int.injEq, PyData.bool.injEq, PyData.str.injEq, PyData.list.injEq, PyData.tuple.injEq, Option.some.injEq, exists_eq_left', exists_eq_left, exists_eq, exists_eq', exists_and_left, exists_and_right, and_assoc, true_and, and_true, List.cons.injEq, reduceCtorEq, false_or, or_false, false_and, and_false, exists_false, List.cons_append, List.nil_append, decide_eq_true_eq, if_true, if_false, ite_true, ite_false, Bool.false_eq_true, Bool.not_true, Bool.not_false, Bool.not_eq_true, decide_eq_false_iff_not, Classical.not_not, Int.le_refl, decide_true, decide_false, Bool.true_eq_false])
section
variable {xs : List DV} {μ : Mu} {Q : DQ}
open PyProof.Rows (bitAnd_m1)
theorem btn_range {n : Nat} : ∀ m : Nat, ((List.range m).map (fun i => [decide (n / 2 ^ (m - 1 - i) % 2 = 1)])).flatten = btn n m
  | 0 => rfl
  | m + 1 => by
    rw [List.range_succ_eq_map, List.map_cons, List.flatten_cons, List.map_map, btn, ← btn_range m]
    have e : ((fun i => [decide (n / 2 ^ (m + 1 - 1 - i) % 2 = 1)]) ∘ Nat.succ) = fun i => [decide (n / 2 ^ (m - 1 - i) % 2 = 1)] := by
      funext i
      show [decide (n / 2 ^ (m + 1 - 1 - (i + 1)) % 2 = 1)] = _
      rw [show m + 1 - 1 - (i + 1) = m - 1 - i by omega]
    rw [e]
    rfl
theorem rdd_p_bits_of (h : dp_p_bits_of xs μ Q) : p_bits_of_BD (dEnds Q) (dstart N_p_bits_of xs) μ := by
  obtain ⟨n, m, rfl, hm, k⟩ := h
  show p_bits_of_BD (dEnds Q) [some (.d (.int n)), some (.d (.int m)), none] μ
  walk_at "d"
  have rg : RgC ((m : Int) - 1) (-1) (-1) m := by
    have := RgC.neg (i := (m : Int) - 1) (j := -1) (by omega) (by omega) (by omega) (by omega)
    rw [show ((m : Int) - 1 - -1).toNat = m by omega] at this
    exact this
  refine ⟨m, rg, sz hm, DLc.pureR (fun i => .d (.str (cs (decide (n / 2 ^ (m - 1 - i) % 2 = 1))))) (fun i P N hi hp => ?_) ?_⟩
  · walk_at "d"
    have e : ((m : Int) - 1 + (i : Int) * -1).toNat = m - 1 - i := by omega
    rw [e, bitAnd_m1]
    have e2 : ((n : Int) / 2 ^ (m - 1 - i) % 2) = ((n / 2 ^ (m - 1 - i) % 2 : Nat) : Int) := by
      rw [Int.natCast_emod, Int.natCast_ediv, Int.natCast_pow]; rfl
    rw [e2, str_bit]
    refine ⟨by omega, ?_, hp⟩
    have : n / 2 ^ (m - 1 - i) % 2 < 2 := Nat.mod_lt _ (by decide)
    rcases (by omega : n / 2 ^ (m - 1 - i) % 2 = 0 ∨ n / 2 ^ (m - 1 - i) % 2 = 1) with e | e
    · rw [e]; decide
    · rw [e]; decide
  · rw [unD_mapf]
    refine ⟨_, rfl, (List.range m).map (fun i => cs (decide (n / 2 ^ (m - 1 - i) % 2 = 1))), by rw [List.map_map, List.map_map]; rfl, ?_, ?_⟩
    · have e : ((List.range m).map (fun i => cs (decide (n / 2 ^ (m - 1 - i) % 2 = 1)))).map (fun x => x.length) = (List.range m).map fun _ => 1 := by rw [List.map_map]; rfl
      have e2 : (Str.ofString "").length = 0 := by decide +kernel
      rw [e, e2, List.map_const', List.sum_replicate_nat, List.length_range]
      omega
    · have e : (List.range m).map (fun i => cs (decide (n / 2 ^ (m - 1 - i) % 2 = 1))) = ((List.range m).map (fun i => [decide (n / 2 ^ (m - 1 - i) % 2 = 1)])).map bt := by rw [List.map_map]; rfl
      rw [e, join_bt]
      have e3 : ((List.range m).map (fun i => [decide (n / 2 ^ (m - 1 - i) % 2 = 1)])).flatten = btn n m := btn_range m
      rw [e3]
      exact Fg.refl k

theorem rdd_p_codes (h : dp_p_codes xs μ Q) : p_codes_BD (dEnds Q) (dstart N_p_codes xs) μ := by
  obtain ⟨fl, rfl, ok, q⟩ := h
  show p_codes_BD (dEnds Q) [some (.d (.list (fl.map pC))), none, none, none, none, none] μ
  have hl := ok.len
  walk_at "d"
  intro l hl0
  refine ⟨sz (by omega), DLc.pure (f := DV.d ∘ pC) (fun p => .d (pC (swp p))) (fun i p P N hp hP => ?_) ?_⟩
  · rw [show (DV.d ∘ pC) p = .d (.tuple [.int p.1, .int p.2]) from rfl]
    walk_at "d"
    exact ⟨sz (by decide), hP⟩
  refine ⟨_, unD_mapf (fun p : Nat × Nat => pC (swp p)) _, ?_⟩
  refine dSortedP (ps := fl.map swp) (by rw [List.length_map]; omega) (by rw [its_d, List.map_map, List.map_map, List.map_map]; rfl) ?_
  obtain ⟨sl, hsl⟩ : ∃ sl, sl = srtP (fl.map swp) := ⟨_, rfl⟩
  rw [← hsl]
  have hcd : cds fl = cdg sl 0 0 := by rw [hsl]; rfl
  have hsn : sl.length ≤ 300 := by rw [hsl, srtP_len, List.length_map]; exact hl
  have hsb : ∀ p ∈ sl, p.1 ≤ 300 := fun p hp => by
    rw [hsl] at hp
    obtain ⟨r, hr, rfl⟩ := List.mem_map.mp ((srtP_perm _).mem_iff.mp hp)
    exact ok.ln r hr
  have hup : sl.Pairwise (fun a b => a.1 ≤ b.1) := by
    rw [hsl]
    exact (srtP_up _).imp fun {a b} z => by
      simp only [ple, Bool.or_eq_true, Bool.and_eq_true, decide_eq_true_eq] at z
      omega
  have hnd : (sl.map (·.2)).Nodup := by
    have e := (srtP_perm (fl.map swp)).map (·.2)
    rw [← hsl, List.map_map] at e
    exact e.nodup_iff.mpr ok.nd
  refine ⟨_, rfl, ?_⟩
  obtain ⟨I, hI⟩ : ∃ I : Nat → DSt → Mu → Prop, I = fun i δ μ' => ∃ (dn : List (Nat × List Bool)) (nx ah : Nat) (x4 x5 : Option DV), cds fl = dn ++ cdg (sl.drop i) nx ah ∧ dn.map (·.1) = (sl.take i).map (·.2) ∧ nx ≤ i * 2 ^ ah ∧ (∀ p ∈ sl.drop i, ah ≤ p.1) ∧ ah ≤ 300 ∧ i ≤ sl.length ∧ μ' = μ.put l (.dc (.dK (kvC dn))) ∧ δ = [some (.d (.list (fl.map pC))), some (.r l), some (.d (.int ((nx : Int) - 1))), some (.d (.int ah)), x4, x5] := ⟨_, rfl⟩
  refine DFo.map2 I (by rw [hI]; exact ⟨[], 0, 0, none, none, by rw [hcd]; rfl, rfl, Nat.zero_le _, fun _ _ => Nat.zero_le _, by omega, by omega, rfl, rfl⟩) ?_ ?_
  · intro i p δ μ' hp h
    rw [hI] at h
    obtain ⟨dn, nx, ah, x4, x5, h1, h2, h3, h4, h5, h6, rfl, rfl⟩ := h
    have hi := (List.getElem?_eq_some_iff.mp hp).1
    have hdr : sl.drop i = p :: sl.drop (i + 1) := by
      have := (List.getElem?_eq_some_iff.mp hp).2
      rw [← this]; exact List.drop_eq_getElem_cons hi
    have hpl := h4 p (by rw [hdr]; simp)
    have hp3 := hsb p (List.mem_of_getElem? hp)
    have hnk : p.2 ∉ dn.map (·.1) := by
      rw [h2]
      intro z
      have e : (sl.take i ++ sl.drop i).map (·.2) = sl.map (·.2) := by rw [List.take_append_drop]
      rw [← e, List.map_append, List.nodup_append] at hnd
      exact hnd.2.2 p.2 z p.2 (by rw [hdr]; simp) rfl
    have hdl : dn.length = i := by
      have := congrArg List.length h2
      rw [List.length_map, List.length_map, List.length_take] at this
      omega
    rw [show pC p = .tuple [.int p.1, .int p.2] from rfl]
    walk_at "d"
    have enx : ((nx : Int) - 1 + 1) = (nx : Int) := by omega
    have ele : ((p.1 : Int) - (ah : Int)).toNat = p.1 - ah := by omega
    rw [enx, ele, show (nx : Int) * 2 ^ (p.1 - ah) = ((nx * 2 ^ (p.1 - ah) : Nat) : Int) by rw [Int.natCast_mul, Int.natCast_pow]; rfl]
    refine ⟨by omega, by omega, ?_, ?_⟩
    · rw [Int.natAbs_natCast]
      have a1 : i * 2 ^ ah ≤ 2 ^ 9 * 2 ^ 300 := Nat.mul_le_mul (by omega) (Nat.pow_le_pow_right (by decide) h5)
      have a2 : 2 ^ 9 * 2 ^ 300 < 2 ^ 1000 := by rw [← Nat.pow_add]; exact Nat.pow_lt_pow_right (by decide) (by decide)
      exact Nat.lt_of_le_of_lt (Nat.le_trans h3 a1) a2
    refine ⟨_, p.1, rfl, by omega, ?_⟩
    walk_at "d"
    refine ⟨_, .inl ⟨_, .inl p.2, Mu.put_same, rfl, by rw [kvC_len, hdl]; exact smallK (by omega), rfl⟩, FgS.refl ?_⟩
    rw [kvC_put hnk, Mu.put_put, hI]
    refine ⟨dn ++ [(p.2, btn (nx * 2 ^ (p.1 - ah)) p.1)], nx * 2 ^ (p.1 - ah) + 1, p.1, some (.d (.int p.1)), some (.d (.int p.2)), ?_, ?_, ?_, ?_, hp3, hi, rfl, ?_⟩
    · rw [h1, hdr, cdg, List.append_assoc]; rfl
    · rw [List.map_append, h2, take_next hp, List.map_append]; rfl
    · have e : 2 ^ ah * 2 ^ (p.1 - ah) = 2 ^ p.1 := by rw [← Nat.pow_add]; congr 1; omega
      have a1 := Nat.mul_le_mul_right (2 ^ (p.1 - ah)) h3
      rw [Nat.mul_assoc, e] at a1
      have a2 : 0 < 2 ^ p.1 := Nat.pow_pos (by decide)
      rw [Nat.add_mul, Nat.one_mul]
      omega
    · intro r hr
      have hup2 : (sl.take i ++ sl.drop i).Pairwise (fun a b => a.1 ≤ b.1) := by rw [List.take_append_drop]; exact hup
      rw [hdr, List.pairwise_append] at hup2
      exact (List.pairwise_cons.mp hup2.2.1).1 r hr
    · push_cast
      rw [show ((nx : Int) * 2 ^ (p.1 - ah) + 1 - 1) = (nx : Int) * 2 ^ (p.1 - ah) by omega]
  · intro δ μ' h
    rw [hI] at h
    obtain ⟨dn, nx, ah, x4, x5, h1, h2, h3, h4, h5, h6, rfl, rfl⟩ := h
    rw [List.drop_length, cdg, List.append_nil] at h1
    walk_at "d"
    rw [← h1]
    exact Fg.refl (q l hl0)
end
end K41

namespace K41
open PySem L2
local macro_rules | `(tactic| walk_at "d") => `(tactic| try simp only [p_bits_of_1D, p_bits_of_BD, p_codes_1D, p_codes_2D, p_codes_3D, p_codes_4D, p_codes_5D, p_codes_6D, p_codes_7D, p_codes_8D, p_codes_BD, p_coded_1D, p_coded_2D, p_coded_BD, whole_1D, whole_BD, signs_1D, signs_2D, signs_3D, signs_4D, signs_5D, signs_6D, signs_7D, signs_8D, signs_9D, signs_10D, signs_11D, signs_12D, signs_BD, size_1D, size_2D, size_3D, size_4D, size_BD, leaves_1D, leaves_2D, leaves_3D, leaves_4D, leaves_5D, leaves_6D, leaves_7D, leaves_8D, leaves_9D, leaves_10D, leaves_11D, leaves_BD, full_1D, full_2D, full_3D, full_4D, full_5D, full_6D, full_7D, full_BD, bits_1D, bits_2D, bits_3D, bits_4D, bits_5D, bits_BD, codes_1D, codes_2D, codes_3D, codes_4D, codes_5D, codes_6D, codes_7D, codes_8D, codes_9D, codes_10D, codes_BD, right_1D, right_2D, right_3D, right_4D, right_5D, right_6D, right_7D, right_8D, right_9D, right_10D, right_11D, right_12D, right_13D, right_14D, right_BD, law_2D, law_3D, law_4D, law_5D, law_6D, law_7D, law_8D, law_9D, law_10D, law_11D, law_12D, law_13D, law_14D, law_RD, dEnds, dVar, dC, dCountI, dOp, dI0, dI, dEq, dEqS, dNeg, dNotV, dAndV, dOrV, dChain, dTest, dAnd, dOr, dNot, dYes, dIf, dNil, dCons, dTup, dLstF, dLstO, dEsc, dEscD, dCall, dCallK, dCallL, dRaise, dTrySet, dTrySetAs, dIdxS, dOpq, jTupA, hStar, dDc, dDGetX, dDGet1, dDGet2, dDAug, dDictO, dForW, dLcW, dDcW, jKeys, dLockE, dLockS, dCallW, CShl,  dSl3S, dSetX, dSetXK, dAsgX, dDropX, dDropXK, dRetX, dRaiseI, dTryH, dHand, dAtX, dIsiXT, dInsert, dGo, dIsiX, DV.ex.injEq,  dUpper, dDisp1, dListS, dEqT, isT_str, dNilT, dInC, dRepZ, dDNewO, dDIn, dDGet, dDPut, dLeT, dLenT, dLenK, dTupV, hTupV, dIxV, vD, Pl, toVs, toV, List.all_cons, List.all_nil, Bool.and_true, Option.bind_some, dCB, dBM, dNoPart, dPart, dIx, dIxT, dIxS, dCat, dCatT, dRep, dRepT, dDNew, dNeNil, dEqNil, dSl3, dAddS, dSl, dSlS, dSlTU, dSl3T, dDct, dCatTU, dLen, dAbs, dMin2, dMax2, dInt1, dIsi, dIsiL, dListOf, dTupleOf, ownT, dAppend, dIndexB, dIndexI, dLRng3, dLRng2, dStar, dIsB, dIsNotB, dIsN, dNotN, isNon_n, isNon_i, dPar, selG, selM, pickS, Df.dat, List.filterMap_cons, List.filterMap_nil, jEnC, dLc2, dLcL, dIn, dExtend, dExtendT, dReverse, dClear, hName, hCons_c, hNil_c, hTup, hLs, hSub, dNext, dSeq, dBreak, dCont, dDrop, dRet, dRetN, dIfS, dNever, dAsg, jList, jTup, jStr, jRng1, jRng2, jRng3, jEnum, jEnumT, jZip, jZipB, sqD, dFor, dForL, dForZ, dGetS, atI_0, atI_1, atI_2, atI_3, dLc, dAug, dStrI, dIntS, dOrd, dJoin, dInS, dCmpS, dSum, dAll, dAny, dRepS, CDivW, CPow, CMul, gK, gP, dwipe, its_d, dat_d, its_po, its_pf, dat_pf, dat_po, lenV_po, lenV_pf, MO.own.injEq, MO.fz.injEq, Mu.at_o, unD_nil, unD_cons, unD_map, unD_mapf, dsi_int_int, dsi_int_bool, dsi_int_list, dsi_int_tuple, dsi_int_str, dsi_bool_int, dsi_bool_bool, dsi_bool_list, dsi_bool_tuple, dsi_bool_str, dsi_str_int, dsi_str_bool, dsi_str_list, dsi_str_tuple, dsi_str_str, dsi_none_int, dsi_none_bool, dsi_none_list, dsi_none_tuple, dsi_none_str, dsi_list_int, dsi_list_bool, dsi_list_list, dsi_list_tuple, dsi_list_str, dsi_dict_int, dsi_dict_bool, dsi_dict_list, dsi_dict_tuple, dsi_dict_str, dsi_tuple_int, dsi_tuple_bool, dsi_tuple_list, dsi_tuple_tuple, dsi_tuple_str, lenV_l, lenV_t, lenV_s, Function.comp_apply, List.length_map, List.length_range, rgI_len, eqv_ii, eqv_bb, shaped_int, shaped_bool, shaped_none, shaped_nil, eqv_nil, Nat.zero_le, cutG_map, Mu.at_n, Mu.at_at, Mu.put_n, Mu.at_put, Mu.put_same, Mu.put_put,
  List.map_cons, List.map_nil, List.append_nil, List.map_map, List.length_cons, List.length_nil, Option.map_some, Option.map_none, List.getElem?_cons_zero, List.getElem?_cons_succ, List.set_cons_zero, List.set_cons_succ, DV.d.injEq, DV.r.injEq, DV.ty.injEq, PyData.int.injEq, PyData.bool.injEq, PyData.str.injEq, PyData.list.injEq, PyData.tuple.injEq, Option.some.injEq, exists_eq_left', exists_eq_left, exists_eq, exists_eq', exists_and_left, exists_and_right, and_assoc, true_and, and_true, List.cons.injEq, reduceCtorEq, false_or, or_false, false_and, and_false, exists_false, List.cons_append, List.nil_append, decide_eq_true_eq, if_true, if_false, ite_true, ite_false, Bool.false_eq_true, Bool.not_true, Bool.not_false, Bool.not_eq_true, decide_eq_false_iff_not, Classical.not_not, Int.le_refl, decide_true, decide_false, Bool.true_eq_false])
section
variable {xs : List DV} {μ : Mu} {Q : DQ}
theorem rdd_p_coded (h : dp_p_coded xs μ Q) : p_coded_BD (dEnds Q) (dstart N_p_coded xs) μ := by
  obtain ⟨msg, fl, rfl, fx, hm, hl, q⟩ := h
  show p_coded_BD (dEnds Q) [some (.d (.list (msg.map fun n : Nat => PyData.int n))), some (.d (.list (fl.map pC))), none, none] μ
  walk_at "d"
  refine ⟨fl, rfl, fx.ok, fun l hl0 => ?_⟩
  refine ⟨szK hl, ?_⟩
  refine DLc.pure (f := DV.d ∘ fun n : Nat => PyData.int n) (fun n : Nat => .d (.str (bt (cdOf fl n)))) (fun i n P N hn hP => ?_) ?_
  · walk_at "d"
    have hn1 : n ∈ (cds fl).map (·.1) := (cds_fst fl).mem_iff.mpr (hm n (List.mem_of_getElem? hn))
    exact ⟨_, .inl ⟨_, .inl n, Mu.put_same, rfl, (kvC_val hn1).symm⟩, rfl, hP⟩
  · refine ⟨_, unD_mapf (fun n : Nat => PyData.str (bt (cdOf fl n))) _, (msg.map (cdOf fl)).map bt, by rw [List.map_map, List.map_map, List.map_map]; rfl, ?_, ?_⟩
    · have e1 : (((msg.map (cdOf fl)).map bt).map (·.length)).sum = (msg.map (cdOf fl)).flatten.length := by
        rw [List.map_map, List.length_flatten]
        congr 1
        exact List.map_congr_left fun b _ => bt_len
      have e2 : (Str.ofString "").length = 0 := by decide +kernel
      have := flat_len (m := 60) (bs := msg.map (cdOf fl)) fun b hb => by
        obtain ⟨s, hs, rfl⟩ := List.mem_map.mp hb
        exact cdOf_len (fun p hp => (fx.ln p hp).2) s
      rw [List.length_map] at this
      rw [e1, e2]; omega
    · rw [join_bt, ← List.flatMap_def]
      exact Fg.of (Sub.refl.put hl0) q
theorem rdd_size (h : dp_size xs μ Q) : size_BD (dEnds Q) (dstart N_size xs) μ := by
  obtain ⟨w, rfl, hn, k⟩ := h
  show size_BD (dEnds Q) [some .pen, some (.d (.int w)), none] μ
  walk_at "d"
  refine tk (by omega) (by decide) (by decide) fun r r0 r1 => ?_
  walk_at "d"
  by_cases h : (w : Int) = 15
  · rw [if_pos h]
    exact Fg.refl (k 300 (by decide) (by decide))
  rw [if_neg h]
  have c0 : 0 ≤ r % 12 ∧ r % 12 < 12 := by omega
  generalize r % 12 = c at c0
  obtain ⟨x, e, hx⟩ := pk (ns := [1, 2, 1 + c, 1 + c, 1 + c, 1 + r, 1 + r, 3]) (i := (w : Int) % 8) (fun n => 1 ≤ n ∧ n ≤ 300) (by omega) (by show _ < (8 : Int); omega) (by intro n hn; simp only [List.mem_cons, List.not_mem_nil, or_false] at hn; omega)
  refine ⟨by decide, by decide, by decide, sz (by decide), by decide, _, e, ?_⟩
  obtain ⟨y, rfl⟩ := Int.eq_ofNat_of_zero_le (show 0 ≤ x by omega)
  exact Fg.refl (k y (by omega) (by omega))
theorem rise_app : ∀ (ns : List Int) (b : Int), rise ns = true → (∀ s ∈ ns, s < b) → rise (ns ++ [b]) = true
  | [], _, _, _ => rfl
  | [a], b, _, h => by
    show (decide (a < b) && true) = true
    rw [decide_eq_true (h a (by simp))]; rfl
  | a :: c :: r, b, h, g => by
    rw [rise, Bool.and_eq_true] at h
    show (decide (a < c) && rise (c :: r ++ [b])) = true
    rw [h.1, rise_app (c :: r) b h.2 fun s hs => g s (List.mem_cons_of_mem _ hs)]; rfl
theorem rdd_signs (h : dp_signs xs μ Q) : signs_BD (dEnds Q) (dstart N_signs xs) μ := by
  obtain ⟨n, w, rfl, n1, n2, hn, k⟩ := h
  show signs_BD (dEnds Q) [some .pen, some (.d (.int n)), some (.d (.int w)), none, none, none, none, none, none] μ
  obtain ⟨R, hR⟩ : ∃ R : DS, R = dSeq signs_8D (dSeq signs_9D signs_10D) := ⟨_, rfl⟩
  have hB : signs_11D = dFor (jRng1 (dCons (dVar 1) dNil)) (hName 7) (dSeq signs_5D (dSeq signs_7D R)) := by rw [hR]; rfl
  have mid : ∀ (D : DEnds) (md sg sp g i : Int) (ss : List Nat) (l : Addr) (m : Nat), ss.length ≤ 300 →
      D.nx [some .pen, some (.d (.int n)), some (.d (.int w)), some (.d (.int md)), some (.d (.int (sp - g))), some (.d (.int (sg + 1 + g))), some (.r l), some (.d (.int i)), some (.d (.int g))] ((μ.at m).put l (.own ((ss.map fun s : Nat => .d (.int s)) ++ [.d (.int (sg + 1 + g))]))) →
      R D [some .pen, some (.d (.int n)), some (.d (.int w)), some (.d (.int md)), some (.d (.int sp)), some (.d (.int sg)), some (.r l), some (.d (.int i)), some (.d (.int g))] ((μ.at m).put l (.own (ss.map fun s : Nat => .d (.int s)))) := by
    intro D md sg sp g i ss l m hs q
    rw [hR]
    walk_at "d"
    exact ⟨smallK (by omega), q⟩
  show dSeq signs_1D (dSeq signs_2D (dSeq signs_3D (dSeq signs_4D (dSeq signs_11D signs_12D)))) _ _ _
  rw [hB]
  walk_at "d"
  refine tk (by omega) (by decide) (by decide) fun md d0 d1 => ?_
  walk_at "d"
  intro l hl
  refine ⟨by omega, by omega, ?_⟩
  rw [Int.toNat_natCast]
  obtain ⟨I, hI⟩ : ∃ I : Nat → DSt → Mu → Prop, I = fun i δ μ' => ∃ (ss : List Nat) (m sp : Nat) (sg : Int) (x7 x8 : Option DV), ss.length = i ∧ sg = (i : Int) - 1 + (512 - (n : Int) - (sp : Int)) ∧ sp ≤ 512 - n ∧ (∀ s ∈ ss, (s : Int) ≤ sg) ∧ rise (ss.map fun s : Nat => (s : Int)) = true ∧ μ.n + 1 ≤ m ∧ m ≤ μ.n + 1 + 2 * i ∧ μ' = (μ.at m).put l (.own (ss.map fun s : Nat => .d (.int s))) ∧ δ = [some .pen, some (.d (.int n)), some (.d (.int w)), some (.d (.int md)), some (.d (.int sp)), some (.d (.int sg)), some (.r l), x7, x8] := ⟨_, rfl⟩
  refine DFo.range I (by rw [hI]; exact ⟨[], μ.n + 1, 512 - n, 0 - 1, none, none, rfl, by omega, Nat.le_refl _, fun _ h => (by simp at h), rfl, Nat.le_refl _, Nat.le_refl _, rfl, by rw [show ((512 - n : Nat) : Int) = 512 - (n : Int) by omega]⟩) ?_ ?_
  · intro i δ μ' hi h
    rw [hI] at h
    obtain ⟨ss, m, sp, sg, x7, x8, hsl, hsg, hsp, hss, hri, m1, m2, rfl, rfl⟩ := h
    walk_at "d"
    refine tk (by show m < _; omega) (by decide) (by decide) fun v1 a0 a1 => ?_
    walk_at "d"
    refine tk (by show m + 1 < _; omega) (by omega) (by omega) fun v2 b0 b1 => ?_
    walk_at "d"
    have fin : ∀ g : Int, 0 ≤ g → g ≤ sp → R { nx := FgS (I (i + 1)), rt := Fg Q, bk := dRet (dEsc (dVar 6)) { nx := fun x μ => Fg Q (DV.d PyData.none) μ, rt := Fg Q }, ct := FgS (I (i + 1)) }
                [some DV.pen, some (DV.d (PyData.int n)), some (DV.d (PyData.int w)), some (DV.d (PyData.int md)),
                  some (DV.d (PyData.int sp)), some (DV.d (PyData.int sg)), some (DV.r l),
                  some (DV.d (PyData.int (0 + (i : Int) * 1))), some (DV.d (PyData.int g))]
                ((μ.at (m + 1 + 1)).put l (MO.own (List.map (fun s : Nat => DV.d (PyData.int s)) ss))) := by
      intro g g0 g1
      refine mid _ md sg sp g _ ss l (m + 1 + 1) (by omega) (FgS.refl ?_)
      rw [hI]
      obtain ⟨t, ht⟩ := Int.eq_ofNat_of_zero_le (show 0 ≤ sg + 1 + g by omega)
      obtain ⟨u, hu⟩ := Int.eq_ofNat_of_zero_le (show 0 ≤ (sp : Int) - g by omega)
      refine ⟨ss ++ [t], m + 2, u, sg + 1 + g, _, _, by rw [List.length_append, hsl]; rfl, by push_cast; omega, by omega, ?_, ?_, by omega, by omega, by rw [List.map_append, ht]; rfl, by rw [hu]⟩
      · intro s hs
        rcases List.mem_append.mp hs with z | z
        · have := hss s z; omega
        · rw [List.mem_singleton] at z; omega
      · rw [List.map_append]
        refine rise_app _ _ hri fun s hs => ?_
        obtain ⟨y, hy, rfl⟩ := List.mem_map.mp hs
        have := hss y hy
        show (y : Int) < (t : Int)
        omega
    obtain ⟨x, e, hx⟩ := pk (ns := [0, if v1 < (sp : Int) then v1 else (sp : Int), v2]) (i := md) (fun n => 0 ≤ n ∧ n ≤ sp) d0 (by show _ < (3 : Int); omega) (by intro n hn; simp only [List.mem_cons, List.not_mem_nil, or_false] at hn; rcases hn with rfl | rfl | rfl; omega; split <;> omega; omega)
    refine ⟨sz (by decide), _, e, ?_⟩
    by_cases c1 : 0 + (i : Int) * 1 = 0
    · rw [if_pos c1]
      refine ⟨by decide, ?_⟩
      by_cases c2 : (w : Int) % 3 = 0
      · rw [if_pos c2]; exact fin sp (by omega) (Int.le_refl _)
      · rw [if_neg c2]; exact fin x hx.1 hx.2
    · rw [if_neg c1]; exact fin x hx.1 hx.2
  · intro δ μ' h
    rw [hI] at h
    obtain ⟨ss, m, sp, sg, x7, x8, hsl, hsg, hsp, hss, hri, m1, m2, rfl, rfl⟩ := h
    walk_at "d"
    refine ⟨ss.map fun s : Nat => .int s, by rw [List.map_map]; rfl, Fg.of (Sub.refl.put hl) (k ss m hsl (fun s hs => ?_) hri (by omega) (by omega))⟩
    have := hss s hs
    omega
end
end K41

namespace K41
open PySem L2
local macro_rules | `(tactic| walk_at "d") => `(tactic| try simp only [p_bits_of_1D, p_bits_of_BD, p_codes_1D, p_codes_2D, p_codes_3D, p_codes_4D, p_codes_5D, p_codes_6D, p_codes_7D, p_codes_8D, p_codes_BD, p_coded_1D, p_coded_2D, p_coded_BD, whole_1D, whole_BD, signs_1D, signs_2D, signs_3D, signs_4D, signs_5D, signs_6D, signs_7D, signs_8D, signs_9D, signs_10D, signs_11D, signs_12D, signs_BD, size_1D, size_2D, size_3D, size_4D, size_BD, leaves_1D, leaves_2D, leaves_3D, leaves_4D, leaves_5D, leaves_6D, leaves_7D, leaves_8D, leaves_9D, leaves_10D, leaves_11D, leaves_BD, full_1D, full_2D, full_3D, full_4D, full_5D, full_6D, full_7D, full_BD, bits_1D, bits_2D, bits_3D, bits_4D, bits_5D, bits_BD, codes_1D, codes_2D, codes_3D, codes_4D, codes_5D, codes_6D, codes_7D, codes_8D, codes_9D, codes_10D, codes_BD, right_1D, right_2D, right_3D, right_4D, right_5D, right_6D, right_7D, right_8D, right_9D, right_10D, right_11D, right_12D, right_13D, right_14D, right_BD, law_2D, law_3D, law_4D, law_5D, law_6D, law_7D, law_8D, law_9D, law_10D, law_11D, law_12D, law_13D, law_14D, law_RD, dEnds, dVar, dC, dCountI, dOp, dI0, dI, dEq, dEqS, dNeg, dNotV, dAndV, dOrV, dChain, dTest, dAnd, dOr, dNot, dYes, dIf, dNil, dCons, dTup, dLstF, dLstO, dEsc, dEscD, dCall, dCallK, dCallL, dRaise, dTrySet, dTrySetAs, dIdxS, dOpq, jTupA, hStar, dDc, dDGetX, dDGet1, dDGet2, dDAug, dDictO, dForW, dLcW, dDcW, jKeys, dLockE, dLockS, dCallW, CShl,  dSl3S, dSetX, dSetXK, dAsgX, dDropX, dDropXK, dRetX, dRaiseI, dTryH, dHand, dAtX, dIsiXT, dInsert, dGo, dIsiX, DV.ex.injEq,  dUpper, dDisp1, dListS, dEqT, isT_str, dNilT, dInC, dRepZ, dDNewO, dDIn, dDGet, dDPut, dLeT, dLenT, dLenK, dTupV, hTupV, dIxV, vD, Pl, toVs, toV, List.all_cons, List.all_nil, Bool.and_true, Option.bind_some, dCB, dBM, dNoPart, dPart, dIx, dIxT, dIxS, dCat, dCatT, dRep, dRepT, dDNew, dNeNil, dEqNil, dSl3, dAddS, dSl, dSlS, dSlTU, dSl3T, dDct, dCatTU, dLen, dAbs, dMin2, dMax2, dInt1, dIsi, dIsiL, dListOf, dTupleOf, ownT, dAppend, dIndexB, dIndexI, dLRng3, dLRng2, dStar, dIsB, dIsNotB, dIsN, dNotN, isNon_n, isNon_i, dPar, selG, selM, pickS, Df.dat, List.filterMap_cons, List.filterMap_nil, jEnC, dLc2, dLcL, dIn, dExtend, dExtendT, dReverse, dClear, hName, hCons_c, hNil_c, hTup, hLs, hSub, dNext, dSeq, dBreak, dCont, dDrop, dRet, dRetN, dIfS, dNever, dAsg, jList, jTup, jStr, jRng1, jRng2, jRng3, jEnum, jEnumT, jZip, jZipB, sqD, dFor, dForL, dForZ, dGetS, atI_0, atI_1, atI_2, atI_3, dLc, dAug, dStrI, dIntS, dOrd, dJoin, dInS, dCmpS, dSum, dAll, dAny, dRepS, CDivW, CPow, CMul, gK, gP, dwipe, its_d, dat_d, its_po, its_pf, dat_pf, dat_po, lenV_po, lenV_pf, MO.own.injEq, MO.fz.injEq, Mu.at_o, unD_nil, unD_cons, unD_map, unD_mapf, dsi_int_int, dsi_int_bool, dsi_int_list, dsi_int_tuple, dsi_int_str, dsi_bool_int, dsi_bool_bool, dsi_bool_list, dsi_bool_tuple, dsi_bool_str, dsi_str_int, dsi_str_bool, dsi_str_list, dsi_str_tuple, dsi_str_str, dsi_none_int, dsi_none_bool, dsi_none_list, dsi_none_tuple, dsi_none_str, dsi_list_int, dsi_list_bool, dsi_list_list, dsi_list_tuple, dsi_list_str, dsi_dict_int, dsi_dict_bool, dsi_dict_list, dsi_dict_tuple, dsi_dict_str, dsi_tuple_int, dsi_tuple_bool, dsi_tuple_list, dsi_tuple_tuple, dsi_tuple_str, lenV_l, lenV_t, lenV_s, Function.comp_apply, List.length_map, List.length_range, rgI_len, eqv_ii, eqv_bb, shaped_int, shaped_bool, shaped_none, shaped_nil, eqv_nil, Nat.zero_le, cutG_map, Mu.at_n, Mu.at_at, Mu.put_n, Mu.at_put, Mu.put_same, Mu.put_put,
  List.map_cons, List.map_nil, List.append_nil, List.map_map, List.length_cons, List.length_nil, Option.map_some, Option.map_none, List.getElem?_cons_zero, List.getElem?_cons_succ, List.set_cons_zero, List.set_cons_succ, DV.d.injEq, DV.r.injEq, DV.ty.injEq, PyData.int.injEq, PyData.bool.injEq, PyData.str.injEq, PyData.list.injEq, PyData.tuple.injEq, Option.some.injEq, exists_eq_left', exists_eq_left, exists_eq, exists_eq', exists_and_left, exists_and_right, and_assoc, true_and, and_true, List.cons.injEq, reduceCtorEq, false_or, or_false, false_and, and_false, exists_false, List.cons_append, List.nil_append, decide_eq_true_eq, if_true, if_false, ite_true, ite_false, Bool.false_eq_true, Bool.not_true, Bool.not_false, Bool.not_eq_true, decide_eq_false_iff_not, Classical.not_not, Int.le_refl, decide_true, decide_false, Bool.true_eq_false])
section
variable {xs : List DV} {μ : Mu} {Q : DQ}
theorem sm_erase (f : Nat → Nat) : ∀ (xs : List Nat) (i : Nat) (y : Nat), xs[i]? = some y → ((xs.eraseIdx i).map f).sum + f y = (xs.map f).sum
  | [], _, _, h => by simp at h
  | x :: xs, 0, y, h => by
    simp at h; subst h
    rw [List.eraseIdx_cons_zero, List.map_cons, List.sum_cons]; omega
  | x :: xs, i + 1, y, h => by
    have := sm_erase f xs i y (by simpa using h)
    rw [List.eraseIdx_cons_succ, List.map_cons, List.map_cons, List.sum_cons, List.sum_cons]; omega
theorem er_len {α : Type} {xs : List α} {i : Nat} {y : α} (h : xs[i]? = some y) : (xs.eraseIdx i).length + 1 = xs.length := by
  have h1 := (List.getElem?_eq_some_iff.mp h).1
  rw [List.length_eraseIdx_of_lt h1]; omega
theorem er_mem {α : Type} {xs : List α} {i : Nat} {x : α} (h : x ∈ xs.eraseIdx i) : x ∈ xs := List.mem_of_mem_eraseIdx h
theorem fst_at : ∀ (ns : List Int) (n : Int), n ∈ ns → ∃ j : Nat, ns[j]? = some n ∧ ∀ m, m < j → ns[m]? ≠ some n
  | [], _, h => by cases h
  | a :: r, n, h => by
    by_cases e : a = n
    · exact ⟨0, by simp [e], fun m hm => absurd hm (Nat.not_lt_zero _)⟩
    · rcases List.mem_cons.mp h with z | z
      · exact absurd z.symm e
      · obtain ⟨j, h1, h2⟩ := fst_at r n z
        refine ⟨j + 1, by simpa using h1, fun m hm => ?_⟩
        cases m with
        | zero => simpa using e
        | succ m => simpa using h2 m (by omega)
/-- depths of leaves -/
structure LvI (ls : List Nat) : Prop where
  ln : ∀ x ∈ ls, x ≤ 60
  sm : (ls.map fun x => 2 ^ (60 - x)).sum = 2 ^ 60
theorem all60 : ∀ ls : List Nat, (∀ x ∈ ls, 60 ≤ x) → (ls.map fun x => 2 ^ (60 - x)).sum = ls.length
  | [], _ => rfl
  | x :: ls, h => by
    have e : 60 - x = 0 := by have := h x (by simp); omega
    rw [List.map_cons, List.sum_cons, all60 ls fun y hy => h y (List.mem_cons_of_mem _ hy), e, List.length_cons]
    omega
theorem LvI.low {ls : List Nat} (h : LvI ls) (hl : ls.length ≤ 300) : ∃ x ∈ ls, x < 60 := by
  by_cases g : ∀ x ∈ ls, 60 ≤ x
  · have := all60 ls g
    rw [h.sm] at this
    omega
  · simp only [Classical.not_forall] at g
    obtain ⟨x, hx, hy⟩ := g
    exact ⟨x, hx, by omega⟩
theorem LvI.grow {ls : List Nat} {i y : Nat} (h : LvI ls) (e : ls[i]? = some y) (hy : y < 60) : LvI (ls.eraseIdx i ++ [y + 1, y + 1]) := by
  constructor
  · intro x hx
    rcases List.mem_append.mp hx with z | z
    · exact h.ln x (er_mem z)
    · simp at z; omega
  · have := sm_erase (fun x => 2 ^ (60 - x)) ls i y e
    rw [h.sm] at this
    rw [List.map_append, List.sum_append]
    have e1 : 2 ^ (60 - y) = 2 * 2 ^ (60 - (y + 1)) := by
      rw [show 60 - y = (60 - (y + 1)) + 1 by omega, Nat.pow_succ]; omega
    simp only [List.map_cons, List.map_nil, List.sum_cons, List.sum_nil]
    have this : ((ls.eraseIdx i).map fun x => 2 ^ (60 - x)).sum + 2 ^ (60 - y) = 2 ^ 60 := this
    omega
theorem p2_pos (k : Nat) : 1 ≤ 2 ^ k := Nat.one_le_two_pow
theorem sum_ge {ls : List Nat} {x : Nat} (f : Nat → Nat) (h1 : ∀ n, 1 ≤ f n) (hx : x ∈ ls) (hl : 2 ≤ ls.length) : f x + 1 ≤ (ls.map f).sum := by
  obtain ⟨i, hi, e⟩ := List.getElem_of_mem hx
  have g : ls[i]? = some x := by rw [List.getElem?_eq_getElem hi, e]
  have a := sm_erase f ls i x g
  have b := er_len g
  have : 1 ≤ ((ls.eraseIdx i).map f).sum := by
    cases hh : ls.eraseIdx i with
    | nil => rw [hh] at b; simp at b; omega
    | cons z r =>
      rw [List.map_cons, List.sum_cons]
      have := h1 z
      omega
  omega
theorem LvI.done {ls : List Nat} (h : LvI ls) (hl : 2 ≤ ls.length) : LOk ls := by
  refine ⟨fun x hx => ⟨?_, h.ln x hx⟩, fun e => by omega, fun _ => h.sm⟩
  cases x with
  | zero =>
    have := sum_ge (fun x => 2 ^ (60 - x)) (fun n => p2_pos _) hx hl
    rw [h.sm] at this
    simp at this
  | succ x => omega
theorem map_er {α β : Type} (f : α → β) : ∀ (xs : List α) (i : Nat), (xs.map f).eraseIdx i = (xs.eraseIdx i).map f
  | [], _ => rfl
  | _ :: _, 0 => rfl
  | x :: xs, i + 1 => by rw [List.map_cons, List.eraseIdx_cons_succ, List.eraseIdx_cons_succ, List.map_cons, map_er f xs i]
theorem rdd_leaves (h : dp_leaves xs μ Q) : leaves_BD (dEnds Q) (dstart N_leaves xs) μ := by
  obtain ⟨n, rfl, n1, n2, hn, k⟩ := h
  show leaves_BD (dEnds Q) [some .pen, some (.d (.int n)), none, none, none, none] μ
  obtain ⟨R, hR⟩ : ∃ R : DS, R = dSeq leaves_8D leaves_9D := ⟨_, rfl⟩
  have hB : leaves_10D = dWhile (dTest (dOp (dI0 fun i j => .bool (decide (i < j))) (dCB dLen (dCons (dVar 3) dNil)) (dVar 1))) (dSeq leaves_5D (dSeq leaves_7D R)) := by rw [hR]; rfl
  have mid : ∀ (D : DEnds) (md : Int) (sp y : Nat) (ls : List Nat) (l : Addr) (m : Nat) (x5 : Option DV), ls.length ≤ 300 → ls[sp]? = some y →
      D.nx [some .pen, some (.d (.int n)), some (.d (.int md)), some (.r l), some (.d (.int sp)), some (.d (.int y))] ((μ.at m).put l (.own ((ls.eraseIdx sp ++ [y + 1, y + 1]).map fun s : Nat => .d (.int s)))) →
      R D [some .pen, some (.d (.int n)), some (.d (.int md)), some (.r l), some (.d (.int sp)), x5] ((μ.at m).put l (.own (ls.map fun s : Nat => .d (.int s)))) := by
    intro D md sp y ls l m x5 hs e q
    rw [hR]
    walk_at "d"
    have hlt := (List.getElem?_eq_some_iff.mp e).1
    refine ⟨l, _, .d (.int y), sp, rfl, rfl, Mu.put_same, by omega, by rw [List.getElem?_map, e]; rfl, ?_⟩
    have er : (ls.map fun s : Nat => DV.d (.int s)).eraseIdx sp = (ls.eraseIdx sp).map fun s : Nat => DV.d (.int s) := map_er _ _ _
    rw [er]
    walk_at "d"
    refine ⟨sz (by decide), szK (by have := er_len e; omega), ?_⟩
    rw [List.map_append] at q
    exact q
  show dSeq leaves_2D (dSeq leaves_3D (dSeq leaves_4D (dSeq leaves_10D leaves_11D))) _ _ _
  rw [hB]
  walk_at "d"
  by_cases c1 : (n : Int) = 1
  · rw [if_pos c1]
    have e1 : n = 1 := by omega
    subst e1
    exact ⟨sz (by decide), fun l hl => Fg.refl (k [1] μ.n l rfl ⟨by simp, fun _ => rfl, fun h => absurd h (by decide)⟩ (Nat.le_refl _) (by omega) hl)⟩
  rw [if_neg c1]
  refine tk (by omega) (by decide) (by decide) fun md d0 d1 => ?_
  walk_at "d"
  refine ⟨sz (by decide), fun l hl => ?_⟩
  obtain ⟨I, hI⟩ : ∃ I : Nat → DSt → Mu → Prop, I = fun i δ μ' => ∃ (ls : List Nat) (m : Nat) (x4 x5 : Option DV), i = n - ls.length ∧ 1 ≤ ls.length ∧ ls.length ≤ n ∧ LvI ls ∧ μ.n + 1 ≤ m ∧ m ≤ μ.n + 1 + ls.length ∧ μ' = (μ.at m).put l (.own (ls.map fun s : Nat => .d (.int s))) ∧ δ = [some .pen, some (.d (.int n)), some (.d (.int md)), some (.r l), x4, x5] := ⟨_, rfl⟩
  refine ⟨I, ⟨n - 1, by rw [hI]; exact ⟨[0], μ.n + 1, none, none, rfl, Nat.le_refl _, n1, ⟨by simp, by decide⟩, Nat.le_refl _, by omega, rfl, rfl⟩⟩, ?_⟩
  intro i δ μ' h
  rw [hI] at h
  obtain ⟨ls, m, x4, x5, rfl, l1, l2, lv, m1, m2, rfl, rfl⟩ := h
  walk_at "d"
  by_cases c2 : (ls.length : Int) < (n : Int)
  · rw [if_pos c2]
    have hint : (ls.map fun s : Nat => DV.d (.int s)) = (ls.map fun s : Nat => (s : Int)).map fun n : Int => DV.d (.int n) := by rw [List.map_map]; rfl
    have l0 : 0 < (ls.map fun s : Nat => (s : Int)).length := by rw [List.length_map]; omega
    obtain ⟨z, hz, hz60⟩ := lv.low (by omega)
    have fin : ∀ (sp y : Nat) (x5' : Option DV), ls[sp]? = some y → y < 60 → R { nx := FgS fun δ' μ' => ∃ m', m' < n - ls.length ∧ I m' δ' μ', rt := Fg Q, bk := dRet (dVar 3) { nx := fun x μ => Fg Q (DV.d PyData.none) μ, rt := Fg Q }, ct := FgS fun δ' μ' => ∃ m', m' < n - ls.length ∧ I m' δ' μ' }
        [some DV.pen, some (DV.d (PyData.int n)), some (DV.d (PyData.int md)), some (DV.r l), some (.d (.int sp)), x5'] ((μ.at (m + 1)).put l (.own (ls.map fun s : Nat => .d (.int s)))) := by
      intro sp y x5' e hy
      refine mid _ md sp y ls l (m + 1) x5' (by omega) e ?_
      show FgS (fun δ' μ' => ∃ m', m' < n - ls.length ∧ I m' δ' μ') _ _
      refine FgS.refl ?_
      have hl2 : (ls.eraseIdx sp ++ [y + 1, y + 1]).length = ls.length + 1 := by
        have := er_len e
        rw [List.length_append]; show _ + 2 = _; omega
      refine ⟨n - (ls.length + 1), by omega, ?_⟩
      rw [hI]
      exact ⟨ls.eraseIdx sp ++ [y + 1, y + 1], m + 1, _, _, by rw [hl2], by rw [hl2]; omega, by rw [hl2]; omega, lv.grow e hy, by omega, by rw [hl2]; omega, rfl, rfl⟩
    have low : ∀ t : Int, t ∈ (ls.map fun s : Nat => (s : Int)) → (∀ y ∈ (ls.map fun s : Nat => (s : Int)), t ≤ y) → ∃ j u : Nat, (ls.map fun s : Nat => (s : Int))[j]? = some t ∧ (∀ m, m < j → (ls.map fun s : Nat => (s : Int))[m]? ≠ some t) ∧ ls[j]? = some u ∧ u < 60 := by
      intro t ht hm
      obtain ⟨j, h1, h2⟩ := fst_at _ t ht
      have h3 := hm z (List.mem_map.mpr ⟨z, hz, rfl⟩)
      have h4 := h1
      rw [List.getElem?_map] at h4
      obtain ⟨u, hu, e⟩ := Option.map_eq_some_iff.mp h4
      exact ⟨j, u, h1, h2, hu, by omega⟩
    refine tk (by show m < _; omega) (by omega) (by omega) fun v a0 a1 => ?_
    walk_at "d"
    refine ⟨_, _, rfl, its_po.trans (by rw [hint]), l0, fun t ht hm => ?_⟩
    obtain ⟨j, u, j1, j2, j3, j4⟩ := low t ht hm
    walk_at "d"
    refine ⟨_, by rw [hint], j, j1, j2, ?_⟩
    walk_at "d"
    obtain ⟨x, e, hx⟩ := pk (ns := [(ls.length : Int) - 1, v, j]) (i := md) (fun n => 0 ≤ n ∧ n < ls.length) d0 (by show _ < (3 : Int); omega) (by
      intro n hn
      have := (List.getElem?_eq_some_iff.mp j3).1
      simp only [List.mem_cons, List.not_mem_nil, or_false] at hn; omega)
    obtain ⟨y, rfl⟩ := Int.eq_ofNat_of_zero_le hx.1
    obtain ⟨w, hw⟩ : ∃ w, ls[y]? = some w := ⟨_, List.getElem?_eq_getElem (by omega)⟩
    refine ⟨sz (by decide), _, e, _, rfl, _, atI_nat' (j := y) rfl (by rw [List.getElem?_map, hw]; rfl), _, rfl, rfl, ?_⟩
    have hwle := lv.ln w (List.mem_of_getElem? hw)
    by_cases c3 : (w : Int) = 60
    · rw [if_pos (by rw [c3]; rfl)]
      refine ⟨_, _, rfl, its_po.trans (by rw [hint]), l0, fun t ht hm => ?_⟩
      obtain ⟨j, u, j1, j2, j3, j4⟩ := low t ht hm
      walk_at "d"
      refine ⟨_, by rw [hint], j, j1, j2, ?_⟩
      exact fin j u _ j3 j4
    · rw [if_neg (by intro h; exact c3 (of_decide_eq_true h))]
      exact fin y w _ hw (by omega)
  · rw [if_neg c2]
    exact Fg.refl (k ls m l (by omega) (lv.done (by omega)) (by omega) (by omega) hl)
end
end K41

namespace K41
open PySem L2
local macro_rules | `(tactic| walk_at "d") => `(tactic| try simp only [p_bits_of_1D, p_bits_of_BD, p_codes_1D, p_codes_2D, p_codes_3D, p_codes_4D, p_codes_5D, p_codes_6D, p_codes_7D, p_codes_8D, p_codes_BD, p_coded_1D, p_coded_2D, p_coded_BD, whole_1D, whole_BD, signs_1D, signs_2D, signs_3D, signs_4D, signs_5D, signs_6D, signs_7D, signs_8D, signs_9D, signs_10D, signs_11D, signs_12D, signs_BD, size_1D, size_2D, size_3D, size_4D, size_BD, leaves_1D, leaves_2D, leaves_3D, leaves_4D, leaves_5D, leaves_6D, leaves_7D, leaves_8D, leaves_9D, leaves_10D, leaves_11D, leaves_BD, full_1D, full_2D, full_3D, full_4D, full_5D, full_6D, full_7D, full_BD, bits_1D, bits_2D, bits_3D, bits_4D, bits_5D, bits_BD, codes_1D, codes_2D, codes_3D, codes_4D, codes_5D, codes_6D, codes_7D, codes_8D, codes_9D, codes_10D, codes_BD, right_1D, right_2D, right_3D, right_4D, right_5D, right_6D, right_7D, right_8D, right_9D, right_10D, right_11D, right_12D, right_13D, right_14D, right_BD, law_2D, law_3D, law_4D, law_5D, law_6D, law_7D, law_8D, law_9D, law_10D, law_11D, law_12D, law_13D, law_14D, law_RD, dEnds, dVar, dC, dCountI, dOp, dI0, dI, dEq, dEqS, dNeg, dNotV, dAndV, dOrV, dChain, dTest, dAnd, dOr, dNot, dYes, dIf, dNil, dCons, dTup, dLstF, dLstO, dEsc, dEscD, dCall, dCallK, dCallL, dRaise, dTrySet, dTrySetAs, dIdxS, dOpq, jTupA, hStar, dDc, dDGetX, dDGet1, dDGet2, dDAug, dDictO, dForW, dLcW, dDcW, jKeys, dLockE, dLockS, dCallW, CShl,  dSl3S, dSetX, dSetXK, dAsgX, dDropX, dDropXK, dRetX, dRaiseI, dTryH, dHand, dAtX, dIsiXT, dInsert, dGo, dIsiX, DV.ex.injEq,  dUpper, dDisp1, dListS, dEqT, isT_str, dNilT, dInC, dRepZ, dDNewO, dDIn, dDGet, dDPut, dLeT, dLenT, dLenK, dTupV, hTupV, dIxV, vD, Pl, toVs, toV, List.all_cons, List.all_nil, Bool.and_true, Option.bind_some, dCB, dBM, dNoPart, dPart, dIx, dIxT, dIxS, dCat, dCatT, dRep, dRepT, dDNew, dNeNil, dEqNil, dSl3, dAddS, dSl, dSlS, dSlTU, dSl3T, dDct, dCatTU, dLen, dAbs, dMin2, dMax2, dInt1, dIsi, dIsiL, dListOf, dTupleOf, ownT, dAppend, dIndexB, dIndexI, dLRng3, dLRng2, dStar, dIsB, dIsNotB, dIsN, dNotN, isNon_n, isNon_i, dPar, selG, selM, pickS, Df.dat, List.filterMap_cons, List.filterMap_nil, jEnC, dLc2, dLcL, dIn, dExtend, dExtendT, dReverse, dClear, hName, hCons_c, hNil_c, hTup, hLs, hSub, dNext, dSeq, dBreak, dCont, dDrop, dRet, dRetN, dIfS, dNever, dAsg, jList, jTup, jStr, jRng1, jRng2, jRng3, jEnum, jEnumT, jZip, jZipB, sqD, dFor, dForL, dForZ, dGetS, atI_0, atI_1, atI_2, atI_3, dLc, dAug, dStrI, dIntS, dOrd, dJoin, dInS, dCmpS, dSum, dAll, dAny, dRepS, CDivW, CPow, CMul, gK, gP, dwipe, its_d, dat_d, its_po, its_pf, dat_pf, dat_po, lenV_po, lenV_pf, MO.own.injEq, MO.fz.injEq, Mu.at_o, unD_nil, unD_cons, unD_map, unD_mapf, dsi_int_int, dsi_int_bool, dsi_int_list, dsi_int_tuple, dsi_int_str, dsi_bool_int, dsi_bool_bool, dsi_bool_list, dsi_bool_tuple, dsi_bool_str, dsi_str_int, dsi_str_bool, dsi_str_list, dsi_str_tuple, dsi_str_str, dsi_none_int, dsi_none_bool, dsi_none_list, dsi_none_tuple, dsi_none_str, dsi_list_int, dsi_list_bool, dsi_list_list, dsi_list_tuple, dsi_list_str, dsi_dict_int, dsi_dict_bool, dsi_dict_list, dsi_dict_tuple, dsi_dict_str, dsi_tuple_int, dsi_tuple_bool, dsi_tuple_list, dsi_tuple_tuple, dsi_tuple_str, lenV_l, lenV_t, lenV_s, Function.comp_apply, List.length_map, List.length_range, rgI_len, eqv_ii, eqv_bb, shaped_int, shaped_bool, shaped_none, shaped_nil, eqv_nil, Nat.zero_le, cutG_map, Mu.at_n, Mu.at_at, Mu.put_n, Mu.at_put, Mu.put_same, Mu.put_put,
  List.map_cons, List.map_nil, List.append_nil, List.map_map, List.length_cons, List.length_nil, Option.map_some, Option.map_none, List.getElem?_cons_zero, List.getElem?_cons_succ, List.set_cons_zero, List.set_cons_succ, DV.d.injEq, DV.r.injEq, DV.ty.injEq, PyData.int.injEq, PyData.bool.injEq, PyData.str.injEq, PyData.list.injEq, PyData.tuple.injEq, Option.some.injEq, exists_eq_left', exists_eq_left, exists_eq, exists_eq', exists_and_left, exists_and_right, and_assoc, true_and, and_true, List.cons.injEq, reduceCtorEq, false_or, or_false, false_and, and_false, exists_false, List.cons_append, List.nil_append, decide_eq_true_eq, if_true, if_false, ite_true, ite_false, Bool.false_eq_true, Bool.not_true, Bool.not_false, Bool.not_eq_true, decide_eq_false_iff_not, Classical.not_not, Int.le_refl, decide_true, decide_false, Bool.true_eq_false])
section
variable {xs : List DV} {μ : Mu} {Q : DQ}
theorem krf_rw (ps : List (Nat × Nat)) : krf (ps.map pC) = (ps.map fun p => 2 ^ (60 - p.2)).sum := by
  unfold krf
  rw [List.map_map]; rfl
theorem fok_of {ps : List (Nat × Nat)} {ls ss : List Nat} (h1 : ps.length = ls.length) (h2 : ls.length ≤ 300) (h3 : 1 ≤ ls.length) (h4 : ps.map (·.1) = ss) (h5 : ∀ s ∈ ss, s ≤ 511) (h6 : rise (ss.map fun s : Nat => (s : Int)) = true)
    (h7 : ∀ p ∈ ps, p.2 ∈ ls) (h8 : LOk ls) (h9 : (ps.map fun p => 2 ^ (60 - p.2)).sum = (ls.map fun x => 2 ^ (60 - x)).sum) : FOk ps := by
  refine ⟨by omega, by omega, fun p hp => h5 _ (by rw [← h4]; exact List.mem_map_of_mem hp), fun p hp => h8.ln _ (h7 p hp), ?_, ?_⟩
  · rw [← h4, List.map_map] at h6
    exact h6
  · by_cases e : ls.length = 1
    · match ps, (show ps.length = 1 by omega) with
      | [p], _ =>
        have := h7 p (by simp)
        rw [h8.o1 e, List.mem_singleton] at this
        show decide ((p.2 : Int).toNat = 1) = true
        rw [this]; rfl
    · match ps, (show 2 ≤ ps.length by omega) with
      | p :: p' :: r, _ =>
        show decide (krf ((p :: p' :: r).map pC) = 2 ^ 60) = true
        rw [krf_rw, h9, h8.o2 (by omega)]
        exact decide_eq_true rfl
theorem rdd_full (h : dp_full xs μ Q) : full_BD (dEnds Q) (dstart N_full xs) μ := by
  obtain ⟨rfl, hn, k⟩ := h
  show full_BD (dEnds Q) [some .pen, none, none, none, none, none] μ
  walk_at "d"
  refine tk (by omega) (by decide) (by decide) fun w w0 w1 => ?_
  walk_at "d"
  obtain ⟨w, rfl⟩ := Int.eq_ofNat_of_zero_le w0
  refine ⟨w, rfl, by show μ.n + 1 < _; omega, fun n n1 n2 => ?_⟩
  walk_at "d"
  refine ⟨n, rfl, n1, n2, by show μ.n + 1 + 1 < _; omega, fun ls m1 l1 hls lok m2 m3 hl1 => ?_⟩
  have m2 : μ.n + 1 + 1 ≤ m1 := m2
  have m3 : m1 ≤ μ.n + 1 + 1 + 400 := m3
  walk_at "d"
  intro l2 hl2
  have hne : l1 ≠ l2 := by rintro rfl; rw [Mu.put_same] at hl2; cases hl2
  rw [Mu.put_ne hne.symm] at hl2
  refine ⟨n, w, rfl, n1, n2, by show m1 < _; omega, fun ss m4 hss sb sr m5 m6 => ?_⟩
  have m5 : m1 ≤ m4 := m5
  have m6 : m4 ≤ m1 + 1000 := m6
  refine ⟨_, rfl, ?_⟩
  obtain ⟨I, hI⟩ : ∃ I : Nat → DSt → Mu → Prop, I = fun i δ μ' => ∃ (lt : List Nat) (ps : List (Nat × Nat)) (m : Nat) (x5 : Option DV), ps.map (·.1) = ss.take i ∧ (∀ p ∈ ps, p.2 ∈ ls) ∧ (∀ x ∈ lt, x ∈ ls) ∧ lt.length + i = n ∧ (ps.map fun p => 2 ^ (60 - p.2)).sum + (lt.map fun x => 2 ^ (60 - x)).sum = (ls.map fun x => 2 ^ (60 - x)).sum ∧ m4 ≤ m ∧ m ≤ m4 + i ∧ μ' = ((μ.at m).put l1 (.own (lt.map fun n : Nat => .d (.int n)))).put l2 (.own ((ps.map pC).map .d)) ∧ δ = [some .pen, some (.d (.int w)), some (.d (.int n)), some (.r l1), some (.r l2), x5] := ⟨_, rfl⟩
  refine DFo.map2 I (by rw [hI]; exact ⟨ls, [], m4, none, rfl, fun _ h => (by simp at h), fun _ h => h, by omega, by simp, Nat.le_refl _, Nat.le_refl _, rfl, rfl⟩) ?_ ?_
  · intro i x δ μ' hx h
    rw [hI] at h
    obtain ⟨lt, ps, m, x5, p1, p2, p3, p4, p5, p6, p7, rfl, rfl⟩ := h
    have hi := (List.getElem?_eq_some_iff.mp hx).1
    rw [hss] at hi
    have ho : ∀ m A B, (((μ.at m).put l1 A).put l2 B).o l1 = some A := fun m A B => by rw [Mu.put_ne hne]; exact Mu.put_same
    walk_at "d"
    refine ⟨⟨_, its_own (ho _ _ _)⟩, _, lenV_r (ho _ _ _), ?_⟩
    rw [List.length_map]
    refine tk (by show m < _; omega) (by omega) (by omega) fun v a0 a1 => ?_
    obtain ⟨j, rfl⟩ := Int.eq_ofNat_of_zero_le a0
    obtain ⟨y, hy⟩ : ∃ y, lt[j]? = some y := ⟨_, List.getElem?_eq_getElem (by omega)⟩
    rw [Mu.at_put, Mu.at_put, Mu.at_at]
    refine ⟨l1, _, .d (.int y), j, rfl, rfl, ho _ _ _, by omega, by rw [List.getElem?_map, hy]; rfl, ?_⟩
    rw [map_er, pts_two hne]
    walk_at "d"
    refine ⟨sz (by decide), smallK (by have := congrArg List.length p1; rw [List.length_map, List.length_take] at this; omega), FgS.refl ?_⟩
    rw [hI]
    have hs := sm_erase (fun x => 2 ^ (60 - x)) lt j y hy
    have hl := er_len hy
    refine ⟨lt.eraseIdx j, ps ++ [(x, y)], m + 1, _, ?_, ?_, fun z hz => p3 z (er_mem hz), by omega, ?_, by omega, by omega, ?_, rfl⟩
    · rw [List.map_append, p1, List.take_add_one, hx]; rfl
    · intro p hp
      rcases List.mem_append.mp hp with z | z
      · exact p2 p z
      · rw [List.mem_singleton] at z; subst z; exact p3 y (List.mem_of_getElem? hy)
    · rw [List.map_append, List.sum_append]
      simp only [List.map_cons, List.map_nil, List.sum_cons, List.sum_nil]
      have hs : ((lt.eraseIdx j).map fun x => 2 ^ (60 - x)).sum + 2 ^ (60 - y) = (lt.map fun x => 2 ^ (60 - x)).sum := hs
      omega
    · rw [List.map_append, List.map_append, List.map_map]; rfl
  · intro δ μ' h
    rw [hI] at h
    obtain ⟨lt, ps, m, x5, p1, p2, p3, p4, p5, p6, p7, rfl, rfl⟩ := h
    rw [hss] at p4 p7
    rw [List.take_length] at p1
    have e0 : lt = [] := List.eq_nil_of_length_eq_zero (by omega)
    subst e0
    have hf : FOk ps := fok_of (by rw [hls, ← hss, ← p1, List.length_map]) (by omega) (by omega) p1 sb sr p2 lok (by simpa using p5)
    walk_at "d"
    refine ⟨ps.map pC, by rw [List.map_map], Fg.of ?_ (k ps m hf (by omega) (by omega))⟩
    exact (Sub.refl.put (by exact hl1)).put (by exact hl2)
end
end K41

namespace K41
open PySem L2
local macro_rules | `(tactic| walk_at "d") => `(tactic| try simp only [p_bits_of_1D, p_bits_of_BD, p_codes_1D, p_codes_2D, p_codes_3D, p_codes_4D, p_codes_5D, p_codes_6D, p_codes_7D, p_codes_8D, p_codes_BD, p_coded_1D, p_coded_2D, p_coded_BD, whole_1D, whole_BD, signs_1D, signs_2D, signs_3D, signs_4D, signs_5D, signs_6D, signs_7D, signs_8D, signs_9D, signs_10D, signs_11D, signs_12D, signs_BD, size_1D, size_2D, size_3D, size_4D, size_BD, leaves_1D, leaves_2D, leaves_3D, leaves_4D, leaves_5D, leaves_6D, leaves_7D, leaves_8D, leaves_9D, leaves_10D, leaves_11D, leaves_BD, full_1D, full_2D, full_3D, full_4D, full_5D, full_6D, full_7D, full_BD, bits_1D, bits_2D, bits_3D, bits_4D, bits_5D, bits_BD, codes_1D, codes_2D, codes_3D, codes_4D, codes_5D, codes_6D, codes_7D, codes_8D, codes_9D, codes_10D, codes_BD, right_1D, right_2D, right_3D, right_4D, right_5D, right_6D, right_7D, right_8D, right_9D, right_10D, right_11D, right_12D, right_13D, right_14D, right_BD, law_2D, law_3D, law_4D, law_5D, law_6D, law_7D, law_8D, law_9D, law_10D, law_11D, law_12D, law_13D, law_14D, law_RD, dEnds, dVar, dC, dCountI, dOp, dI0, dI, dEq, dEqS, dNeg, dNotV, dAndV, dOrV, dChain, dTest, dAnd, dOr, dNot, dYes, dIf, dNil, dCons, dTup, dLstF, dLstO, dEsc, dEscD, dCall, dCallK, dCallL, dRaise, dTrySet, dTrySetAs, dIdxS, dOpq, jTupA, hStar, dDc, dDGetX, dDGet1, dDGet2, dDAug, dDictO, dForW, dLcW, dDcW, jKeys, dLockE, dLockS, dCallW, CShl,  dSl3S, dSetX, dSetXK, dAsgX, dDropX, dDropXK, dRetX, dRaiseI, dTryH, dHand, dAtX, dIsiXT, dInsert, dGo, dIsiX, DV.ex.injEq,  dUpper, dDisp1, dListS, dEqT, isT_str, dNilT, dInC, dRepZ, dDNewO, dDIn, dDGet, dDPut, dLeT, dLenT, dLenK, dTupV, hTupV, dIxV, vD, Pl, toVs, toV, List.all_cons, List.all_nil, Bool.and_true, Option.bind_some, dCB, dBM, dNoPart, dPart, dIx, dIxT, dIxS, dCat, dCatT, dRep, dRepT, dDNew, dNeNil, dEqNil, dSl3, dAddS, dSl, dSlS, dSlTU, dSl3T, dDct, dCatTU, dLen, dAbs, dMin2, dMax2, dInt1, dIsi, dIsiL, dListOf, dTupleOf, ownT, dAppend, dIndexB, dIndexI, dLRng3, dLRng2, dStar, dIsB, dIsNotB, dIsN, dNotN, isNon_n, isNon_i, dPar, selG, selM, pickS, Df.dat, List.filterMap_cons, List.filterMap_nil, jEnC, dLc2, dLcL, dIn, dExtend, dExtendT, dReverse, dClear, hName, hCons_c, hNil_c, hTup, hLs, hSub, dNext, dSeq, dBreak, dCont, dDrop, dRet, dRetN, dIfS, dNever, dAsg, jList, jTup, jStr, jRng1, jRng2, jRng3, jEnum, jEnumT, jZip, jZipB, sqD, dFor, dForL, dForZ, dGetS, atI_0, atI_1, atI_2, atI_3, dLc, dAug, dStrI, dIntS, dOrd, dJoin, dInS, dCmpS, dSum, dAll, dAny, dRepS, CDivW, CPow, CMul, gK, gP, dwipe, its_d, dat_d, its_po, its_pf, dat_pf, dat_po, lenV_po, lenV_pf, MO.own.injEq, MO.fz.injEq, Mu.at_o, unD_nil, unD_cons, unD_map, unD_mapf, dsi_int_int, dsi_int_bool, dsi_int_list, dsi_int_tuple, dsi_int_str, dsi_bool_int, dsi_bool_bool, dsi_bool_list, dsi_bool_tuple, dsi_bool_str, dsi_str_int, dsi_str_bool, dsi_str_list, dsi_str_tuple, dsi_str_str, dsi_none_int, dsi_none_bool, dsi_none_list, dsi_none_tuple, dsi_none_str, dsi_list_int, dsi_list_bool, dsi_list_list, dsi_list_tuple, dsi_list_str, dsi_dict_int, dsi_dict_bool, dsi_dict_list, dsi_dict_tuple, dsi_dict_str, dsi_tuple_int, dsi_tuple_bool, dsi_tuple_list, dsi_tuple_tuple, dsi_tuple_str, lenV_l, lenV_t, lenV_s, Function.comp_apply, List.length_map, List.length_range, rgI_len, eqv_ii, eqv_bb, shaped_int, shaped_bool, shaped_none, shaped_nil, eqv_nil, Nat.zero_le, cutG_map, Mu.at_n, Mu.at_at, Mu.put_n, Mu.at_put, Mu.put_same, Mu.put_put,
  List.map_cons, List.map_nil, List.append_nil, List.map_map, List.length_cons, List.length_nil, Option.map_some, Option.map_none, List.getElem?_cons_zero, List.getElem?_cons_succ, List.set_cons_zero, List.set_cons_succ, DV.d.injEq, DV.r.injEq, DV.ty.injEq, PyData.int.injEq, PyData.bool.injEq, PyData.str.injEq, PyData.list.injEq, PyData.tuple.injEq, Option.some.injEq, exists_eq_left', exists_eq_left, exists_eq, exists_eq', exists_and_left, exists_and_right, and_assoc, true_and, and_true, List.cons.injEq, reduceCtorEq, false_or, or_false, false_and, and_false, exists_false, List.cons_append, List.nil_append, decide_eq_true_eq, if_true, if_false, ite_true, ite_false, Bool.false_eq_true, Bool.not_true, Bool.not_false, Bool.not_eq_true, decide_eq_false_iff_not, Classical.not_not, Int.le_refl, decide_true, decide_false, Bool.true_eq_false])
section
variable {xs : List DV} {μ : Mu} {Q : DQ}
theorem rdd_bits (h : dp_bits xs μ Q) : bits_BD (dEnds Q) (dstart N_bits xs) μ := by
  obtain ⟨n, m, rfl, hm, k⟩ := h
  show bits_BD (dEnds Q) [some (.d (.int (n : Nat))), some (.d (.int (m : Nat))), none, none] μ
  walk_at "d"
  refine ⟨by omega, by omega, ?_⟩
  rw [Int.toNat_natCast]
  have e01 : (Str.ofString "01").cps.toList = [48, 49] := by decide +kernel
  have l01 : (Str.ofString "01").length ≤ sizeLine := by decide +kernel
  have enil : Str.ofString "" = bt [] := by decide +kernel
  obtain ⟨I, hI⟩ : ∃ I : Nat → DSt → Mu → Prop, I = fun i δ μ' => ∃ x3 : Option DV, μ' = μ ∧ δ = [some (.d (.int ((n / 2 ^ i : Nat) : Int))), some (.d (.int (m : Nat))), some (.d (.str (bt (btn n i)))), x3] := ⟨_, rfl⟩
  refine DFo.range I (by rw [hI, enil]; exact ⟨none, rfl, by rw [Nat.pow_zero, Nat.div_one]; rfl⟩) ?_ ?_
  · intro i δ μ' hi h
    rw [hI] at h
    obtain ⟨x3, rfl, rfl⟩ := h
    walk_at "d"
    rw [e01]
    obtain ⟨b, hb, hc⟩ : ∃ b : Bool, b = decide (n / 2 ^ i % 2 = 1) ∧ atI [48, 49] (((n / 2 ^ i : Nat) : Int) % 2) = some (bc b) := by
      by_cases h1 : n / 2 ^ i % 2 = 1
      · refine ⟨true, by rw [decide_eq_true h1], ?_⟩
        rw [show (((n / 2 ^ i : Nat) : Int) % 2) = 1 by omega]; rfl
      · refine ⟨false, by rw [decide_eq_false h1], ?_⟩
        rw [show (((n / 2 ^ i : Nat) : Int) % 2) = 0 by omega]; rfl
    refine ⟨by decide, l01, bc b, hc, ?_, by decide, by decide, FgS.refl ?_⟩
    · rw [bt_len, btn_len]; show 1 + i ≤ _; exact sz (by omega)
    rw [hI]
    refine ⟨some (.d (.int (0 + (i : Int) * 1))), rfl, ?_⟩
    have e1 : (((n / 2 ^ i : Nat) : Int) / 2) = ((n / 2 ^ (i + 1) : Nat) : Int) := by
      rw [Nat.pow_succ, ← Nat.div_div_eq_div_mul]; omega
    have e2 : (⟨#[bc b]⟩ : Str) ++ bt (btn n i) = bt (btn n (i + 1)) := by
      rw [show (⟨#[bc b]⟩ : Str) = bt [b] from rfl, bt_app, hb]; rfl
    rw [e1, e2]
  · intro δ μ' h
    rw [hI] at h
    obtain ⟨x3, rfl, rfl⟩ := h
    walk_at "d"
    exact Fg.refl k
end
end K41

namespace K41
open PySem L2
local macro_rules | `(tactic| walk_at "d") => `(tactic| try simp only [p_bits_of_1D, p_bits_of_BD, p_codes_1D, p_codes_2D, p_codes_3D, p_codes_4D, p_codes_5D, p_codes_6D, p_codes_7D, p_codes_8D, p_codes_BD, p_coded_1D, p_coded_2D, p_coded_BD, whole_1D, whole_BD, signs_1D, signs_2D, signs_3D, signs_4D, signs_5D, signs_6D, signs_7D, signs_8D, signs_9D, signs_10D, signs_11D, signs_12D, signs_BD, size_1D, size_2D, size_3D, size_4D, size_BD, leaves_1D, leaves_2D, leaves_3D, leaves_4D, leaves_5D, leaves_6D, leaves_7D, leaves_8D, leaves_9D, leaves_10D, leaves_11D, leaves_BD, full_1D, full_2D, full_3D, full_4D, full_5D, full_6D, full_7D, full_BD, bits_1D, bits_2D, bits_3D, bits_4D, bits_5D, bits_BD, codes_1D, codes_2D, codes_3D, codes_4D, codes_5D, codes_6D, codes_7D, codes_8D, codes_9D, codes_10D, codes_BD, right_1D, right_2D, right_3D, right_4D, right_5D, right_6D, right_7D, right_8D, right_9D, right_10D, right_11D, right_12D, right_13D, right_14D, right_BD, law_2D, law_3D, law_4D, law_5D, law_6D, law_7D, law_8D, law_9D, law_10D, law_11D, law_12D, law_13D, law_14D, law_RD, dEnds, dVar, dC, dCountI, dOp, dI0, dI, dEq, dEqS, dNeg, dNotV, dAndV, dOrV, dChain, dTest, dAnd, dOr, dNot, dYes, dIf, dNil, dCons, dTup, dLstF, dLstO, dEsc, dEscD, dCall, dCallK, dCallL, dRaise, dTrySet, dTrySetAs, dIdxS, dOpq, jTupA, hStar, dDc, dDGetX, dDGet1, dDGet2, dDAug, dDictO, dForW, dLcW, dDcW, jKeys, dLockE, dLockS, dCallW, CShl,  dSl3S, dSetX, dSetXK, dAsgX, dDropX, dDropXK, dRetX, dRaiseI, dTryH, dHand, dAtX, dIsiXT, dInsert, dGo, dIsiX, DV.ex.injEq,  dUpper, dDisp1, dListS, dEqT, isT_str, dNilT, dInC, dRepZ, dDNewO, dDIn, dDGet, dDPut, dLeT, dLenT, dLenK, dTupV, hTupV, dIxV, vD, Pl, toVs, toV, List.all_cons, List.all_nil, Bool.and_true, Option.bind_some, dCB, dBM, dNoPart, dPart, dIx, dIxT, dIxS, dCat, dCatT, dRep, dRepT, dDNew, dNeNil, dEqNil, dSl3, dAddS, dSl, dSlS, dSlTU, dSl3T, dDct, dCatTU, dLen, dAbs, dMin2, dMax2, dInt1, dIsi, dIsiL, dListOf, dTupleOf, ownT, dAppend, dIndexB, dIndexI, dLRng3, dLRng2, dStar, dIsB, dIsNotB, dIsN, dNotN, isNon_n, isNon_i, dPar, selG, selM, pickS, Df.dat, List.filterMap_cons, List.filterMap_nil, jEnC, dLc2, dLcL, dIn, dExtend, dExtendT, dReverse, dClear, hName, hCons_c, hNil_c, hTup, hLs, hSub, dNext, dSeq, dBreak, dCont, dDrop, dRet, dRetN, dIfS, dNever, dAsg, jList, jTup, jStr, jRng1, jRng2, jRng3, jEnum, jEnumT, jZip, jZipB, sqD, dFor, dForL, dForZ, dGetS, atI_0, atI_1, atI_2, atI_3, dLc, dAug, dStrI, dIntS, dOrd, dJoin, dInS, dCmpS, dSum, dAll, dAny, dRepS, CDivW, CPow, CMul, gK, gP, dwipe, its_d, dat_d, its_po, its_pf, dat_pf, dat_po, lenV_po, lenV_pf, MO.own.injEq, MO.fz.injEq, Mu.at_o, unD_nil, unD_cons, unD_map, unD_mapf, dsi_int_int, dsi_int_bool, dsi_int_list, dsi_int_tuple, dsi_int_str, dsi_bool_int, dsi_bool_bool, dsi_bool_list, dsi_bool_tuple, dsi_bool_str, dsi_str_int, dsi_str_bool, dsi_str_list, dsi_str_tuple, dsi_str_str, dsi_none_int, dsi_none_bool, dsi_none_list, dsi_none_tuple, dsi_none_str, dsi_list_int, dsi_list_bool, dsi_list_list, dsi_list_tuple, dsi_list_str, dsi_dict_int, dsi_dict_bool, dsi_dict_list, dsi_dict_tuple, dsi_dict_str, dsi_tuple_int, dsi_tuple_bool, dsi_tuple_list, dsi_tuple_tuple, dsi_tuple_str, lenV_l, lenV_t, lenV_s, Function.comp_apply, List.length_map, List.length_range, rgI_len, eqv_ii, eqv_bb, shaped_int, shaped_bool, shaped_none, shaped_nil, eqv_nil, Nat.zero_le, cutG_map, Mu.at_n, Mu.at_at, Mu.put_n, Mu.at_put, Mu.put_same, Mu.put_put,
  List.map_cons, List.map_nil, List.append_nil, List.map_map, List.length_cons, List.length_nil, Option.map_some, Option.map_none, List.getElem?_cons_zero, List.getElem?_cons_succ, List.set_cons_zero, List.set_cons_succ, DV.d.injEq, DV.r.injEq, DV.ty.injEq, PyData.int.injEq, PyData.bool.injEq, PyData.str.injEq, PyData.list.injEq, PyData.tuple.injEq, Option.some.injEq, exists_eq_left', exists_eq_left, exists_eq, exists_eq', exists_and_left, exists_and_right, and_assoc, true_and, and_true, List.cons.injEq, reduceCtorEq, false_or, or_false, false_and, and_false, exists_false, List.cons_append, List.nil_append, decide_eq_true_eq, if_true, if_false, ite_true, ite_false, Bool.false_eq_true, Bool.not_true, Bool.not_false, Bool.not_eq_true, decide_eq_false_iff_not, Classical.not_not, Int.le_refl, decide_true, decide_false, Bool.true_eq_false])
section
variable {xs : List DV} {μ : Mu} {Q : DQ}
theorem rdd_whole (h : dp_whole xs μ Q) : whole_BD (dEnds Q) (dstart N_whole xs) μ := by
  obtain ⟨n, lo, hi, rfl, k⟩ := h
  show whole_BD (dEnds Q) [some (.d (.int n)), some (.d (.int lo)), some (.d (.int hi))] μ
  walk_at "d"
  by_cases h : lo ≤ n
  · rw [if_pos h]
    rw [show decide (lo ≤ n ∧ n ≤ hi) = decide (n ≤ hi) by simp [h]] at k
    exact Fg.refl k
  · rw [if_neg h]
    rw [show decide (lo ≤ n ∧ n ≤ hi) = false by simp [h]] at k
    exact Fg.refl k
theorem rdd_codes (h : dp_codes xs μ Q) : codes_BD (dEnds Q) (dstart N_codes xs) μ := by
  obtain ⟨fl, rfl, ok, q⟩ := h
  show codes_BD (dEnds Q) [some (.d (.list (fl.map pC))), none, none, none, none, none, none] μ
  have hl := ok.len
  walk_at "d"
  intro l hl0
  refine ⟨sz (by omega), DLc.pure (f := DV.d ∘ pC) (fun p => .d (pC (swp p))) (fun i p P N hp hP => ?_) ?_⟩
  · rw [show (DV.d ∘ pC) p = .d (.tuple [.int p.1, .int p.2]) from rfl]
    walk_at "d"
    exact ⟨sz (by decide), hP⟩
  refine ⟨_, unD_mapf (fun p : Nat × Nat => pC (swp p)) _, ?_⟩
  refine dSortedP (ps := fl.map swp) (by rw [List.length_map]; omega) (by rw [its_d, List.map_map, List.map_map, List.map_map]; rfl) ?_
  obtain ⟨sl, hsl⟩ : ∃ sl, sl = srtP (fl.map swp) := ⟨_, rfl⟩
  rw [← hsl]
  have hcd : cds fl = cdg sl 0 0 := by rw [hsl]; rfl
  have hsn : sl.length ≤ 300 := by rw [hsl, srtP_len, List.length_map]; exact hl
  have hsb : ∀ p ∈ sl, p.1 ≤ 300 := fun p hp => by
    rw [hsl] at hp
    obtain ⟨r, hr, rfl⟩ := List.mem_map.mp ((srtP_perm _).mem_iff.mp hp)
    exact ok.ln r hr
  have hup : sl.Pairwise (fun a b => a.1 ≤ b.1) := by
    rw [hsl]
    exact (srtP_up _).imp fun {a b} z => by
      simp only [ple, Bool.or_eq_true, Bool.and_eq_true, decide_eq_true_eq] at z
      omega
  have hnd : (sl.map (·.2)).Nodup := by
    have e := (srtP_perm (fl.map swp)).map (·.2)
    rw [← hsl, List.map_map] at e
    exact e.nodup_iff.mpr ok.nd
  refine ⟨_, rfl, ?_⟩
  obtain ⟨I, hI⟩ : ∃ I : Nat → DSt → Mu → Prop, I = fun i δ μ' => ∃ (dn : List (Nat × List Bool)) (nx ah : Nat) (x4 x5 x6 : Option DV), cds fl = dn ++ cdg (sl.drop i) nx ah ∧ dn.map (·.1) = (sl.take i).map (·.2) ∧ nx ≤ i * 2 ^ ah ∧ (∀ p ∈ sl.drop i, ah ≤ p.1) ∧ ah ≤ 300 ∧ i ≤ sl.length ∧ μ' = μ.put l (.dc (.dK (kvC dn))) ∧ δ = [some (.d (.list (fl.map pC))), some (.r l), some (.d (.int ((nx : Int) - 1))), some (.d (.int ah)), x4, x5, x6] := ⟨_, rfl⟩
  refine DFo.map2 I (by rw [hI]; exact ⟨[], 0, 0, none, none, none, by rw [hcd]; rfl, rfl, Nat.zero_le _, fun _ _ => Nat.zero_le _, by omega, by omega, rfl, rfl⟩) ?_ ?_
  · intro i p δ μ' hp h
    rw [hI] at h
    obtain ⟨dn, nx, ah, x4, x5, x6, h1, h2, h3, h4, h5, h6, rfl, rfl⟩ := h
    have hi := (List.getElem?_eq_some_iff.mp hp).1
    have hdr : sl.drop i = p :: sl.drop (i + 1) := by
      have := (List.getElem?_eq_some_iff.mp hp).2
      rw [← this]; exact List.drop_eq_getElem_cons hi
    have hpl := h4 p (by rw [hdr]; simp)
    have hp3 := hsb p (List.mem_of_getElem? hp)
    have hnk : p.2 ∉ dn.map (·.1) := by
      rw [h2]
      intro z
      have e : (sl.take i ++ sl.drop i).map (·.2) = sl.map (·.2) := by rw [List.take_append_drop]
      rw [← e, List.map_append, List.nodup_append] at hnd
      exact hnd.2.2 p.2 z p.2 (by rw [hdr]; simp) rfl
    have hdl : dn.length = i := by
      have := congrArg List.length h2
      rw [List.length_map, List.length_map, List.length_take] at this
      omega
    rw [show pC p = .tuple [.int p.1, .int p.2] from rfl]
    walk_at "d"
    have enx : ((nx : Int) - 1 + 1) = (nx : Int) := by omega
    rw [enx]
    refine ⟨by omega, by omega, ?_⟩
    rw [show ((p.1 : Int) - (ah : Int)).toNat = p.1 - ah by omega]
    obtain ⟨J, hJ⟩ : ∃ J : Nat → DSt → Mu → Prop, J = fun j δ μ' => ∃ x6 : Option DV, μ' = μ.put l (.dc (.dK (kvC dn))) ∧ δ = [some (.d (.list (fl.map pC))), some (.r l), some (.d (.int ((nx * 2 ^ j : Nat) : Int))), some (.d (.int ah)), some (.d (.int p.1)), some (.d (.int p.2)), x6] := ⟨_, rfl⟩
    refine DFo.range J (by rw [hJ]; exact ⟨x6, rfl, by rw [Nat.pow_zero, Nat.mul_one]⟩) ?_ ?_
    · intro j δ μ' hj h
      rw [hJ] at h
      obtain ⟨x6, rfl, rfl⟩ := h
      walk_at "d"
      refine ⟨.inl ⟨by decide, by decide⟩, FgS.refl ?_⟩
      rw [hJ]
      exact ⟨_, rfl, by rw [Nat.pow_succ, show (2 : Int) * ((nx * 2 ^ j : Nat) : Int) = ((nx * (2 ^ j * 2) : Nat) : Int) by push_cast; rw [Int.mul_comm, Int.mul_assoc]]⟩
    intro δ μ' h
    rw [hJ] at h
    obtain ⟨x6, rfl, rfl⟩ := h
    walk_at "d"
    refine ⟨_, p.1, rfl, by omega, ?_⟩
    walk_at "d"
    refine ⟨_, .inl ⟨_, .inl p.2, Mu.put_same, rfl, by rw [kvC_len, hdl]; exact smallK (by omega), rfl⟩, FgS.refl ?_⟩
    rw [kvC_put hnk, Mu.put_put, hI]
    refine ⟨dn ++ [(p.2, btn (nx * 2 ^ (p.1 - ah)) p.1)], nx * 2 ^ (p.1 - ah) + 1, p.1, some (.d (.int p.1)), some (.d (.int p.2)), x6, ?_, ?_, ?_, ?_, hp3, hi, rfl, ?_⟩
    · rw [h1, hdr, cdg, List.append_assoc]; rfl
    · rw [List.map_append, h2, take_next hp, List.map_append]; rfl
    · have e : 2 ^ ah * 2 ^ (p.1 - ah) = 2 ^ p.1 := by rw [← Nat.pow_add]; congr 1; omega
      have a1 := Nat.mul_le_mul_right (2 ^ (p.1 - ah)) h3
      rw [Nat.mul_assoc, e] at a1
      have a2 : 0 < 2 ^ p.1 := Nat.pow_pos (by decide)
      rw [Nat.add_mul, Nat.one_mul]
      omega
    · intro r hr
      have hup2 : (sl.take i ++ sl.drop i).Pairwise (fun a b => a.1 ≤ b.1) := by rw [List.take_append_drop]; exact hup
      rw [hdr, List.pairwise_append] at hup2
      exact (List.pairwise_cons.mp hup2.2.1).1 r hr
    · push_cast
      rw [show ((nx : Int) * 2 ^ (p.1 - ah) + 1 - 1) = (nx : Int) * 2 ^ (p.1 - ah) by omega]
  · intro δ μ' h
    rw [hI] at h
    obtain ⟨dn, nx, ah, x4, x5, x6, h1, h2, h3, h4, h5, h6, rfl, rfl⟩ := h
    rw [List.drop_length, cdg, List.append_nil] at h1
    walk_at "d"
    rw [← h1]
    exact Fg.refl (q l hl0)
theorem rise_lt : ∀ (ns : List Int) (a : Int), rise (a :: ns) = true → ∀ b ∈ ns, a < b
  | [], _, _, _, h => by cases h
  | c :: r, a, h, b, hb => by
    rw [rise, Bool.and_eq_true] at h
    have h1 := of_decide_eq_true h.1
    rcases List.mem_cons.mp hb with z | z
    · omega
    · have := rise_lt r c h.2 b z
      omega
theorem rise_pw : ∀ ss : List Nat, rise (ss.map fun s : Nat => (s : Int)) = true → ss.Pairwise (· < ·)
  | [], _ => .nil
  | s :: ss, h => by
    rw [List.map_cons] at h
    refine List.Pairwise.cons (fun b hb => ?_) (rise_pw ss ?_)
    · have := rise_lt _ _ h (b : Int) (List.mem_map.mpr ⟨b, hb, rfl⟩); omega
    · cases ss with
      | nil => rfl
      | cons c r => rw [List.map_cons, rise] at h; rw [Bool.and_eq_true] at h; exact h.2
theorem FOk.fx {ps : List (Nat × Nat)} (h : FOk ps) : FlX ps := by
  have hup : (ps.map (·.1)).Pairwise (· < ·) := rise_pw _ (by rw [List.map_map]; exact h.up)
  refine ⟨⟨h.l2, nodup_of_lt hup, fun p hp => by have := (h.ln p hp).2; omega⟩, h.ln, ?_⟩
  match ps, h.kr, h.ln with
  | [], _, _ => simp
  | [p], _, hl =>
    have := hl p (by simp)
    simp only [List.map_cons, List.map_nil, List.sum_cons, List.sum_nil, Nat.add_zero]
    exact Nat.pow_le_pow_right (by decide) (by omega)
  | p :: q :: r, hk, _ =>
    have : krf ((p :: q :: r).map pC) = 2 ^ 60 := of_decide_eq_true hk
    rw [krf_rw] at this
    omega
end
end K41

namespace K41
open PySem L2
local macro_rules | `(tactic| walk_at "d") => `(tactic| try simp only [p_bits_of_1D, p_bits_of_BD, p_codes_1D, p_codes_2D, p_codes_3D, p_codes_4D, p_codes_5D, p_codes_6D, p_codes_7D, p_codes_8D, p_codes_BD, p_coded_1D, p_coded_2D, p_coded_BD, whole_1D, whole_BD, signs_1D, signs_2D, signs_3D, signs_4D, signs_5D, signs_6D, signs_7D, signs_8D, signs_9D, signs_10D, signs_11D, signs_12D, signs_BD, size_1D, size_2D, size_3D, size_4D, size_BD, leaves_1D, leaves_2D, leaves_3D, leaves_4D, leaves_5D, leaves_6D, leaves_7D, leaves_8D, leaves_9D, leaves_10D, leaves_11D, leaves_BD, full_1D, full_2D, full_3D, full_4D, full_5D, full_6D, full_7D, full_BD, bits_1D, bits_2D, bits_3D, bits_4D, bits_5D, bits_BD, codes_1D, codes_2D, codes_3D, codes_4D, codes_5D, codes_6D, codes_7D, codes_8D, codes_9D, codes_10D, codes_BD, right_1D, right_2D, right_3D, right_4D, right_5D, right_6D, right_7D, right_8D, right_9D, right_10D, right_11D, right_12D, right_13D, right_14D, right_BD, law_2D, law_3D, law_4D, law_5D, law_6D, law_7D, law_8D, law_9D, law_10D, law_11D, law_12D, law_13D, law_14D, law_RD, dEnds, dLVals, dStarts, dDispS, dDEq, dVar, dC, dCountI, dOp, dI0, dI, dEq, dEqS, dNeg, dNotV, dAndV, dOrV, dChain, dTest, dAnd, dOr, dNot, dYes, dIf, dNil, dCons, dTup, dLstF, dLstO, dEsc, dEscD, dCall, dCallK, dCallL, dRaise, dTrySet, dTrySetAs, dIdxS, dOpq, jTupA, hStar, dDc, dDGetX, dDGet1, dDGet2, dDAug, dDictO, dForW, dLcW, dDcW, jKeys, dLockE, dLockS, dCallW, CShl,  dSl3S, dSetX, dSetXK, dAsgX, dDropX, dDropXK, dRetX, dRaiseI, dTryH, dHand, dAtX, dIsiXT, dInsert, dGo, dIsiX, DV.ex.injEq,  dUpper, dDisp1, dListS, dEqT, isT_str, dNilT, dInC, dRepZ, dDNewO, dDIn, dDGet, dDPut, dLeT, dLenT, dLenK, dTupV, hTupV, dIxV, vD, Pl, toVs, toV, List.all_cons, List.all_nil, Bool.and_true, Option.bind_some, dCB, dBM, dNoPart, dPart, dIx, dIxT, dIxS, dCat, dCatT, dRep, dRepT, dDNew, dNeNil, dEqNil, dSl3, dAddS, dSl, dSlS, dSlTU, dSl3T, dDct, dCatTU, dLen, dAbs, dMin2, dMax2, dInt1, dIsi, dIsiL, dListOf, dTupleOf, ownT, dAppend, dIndexB, dIndexI, dLRng3, dLRng2, dStar, dIsB, dIsNotB, dIsN, dNotN, isNon_n, isNon_i, dPar, selG, selM, pickS, Df.dat, List.filterMap_cons, List.filterMap_nil, jEnC, dLc2, dLcL, dIn, dExtend, dExtendT, dReverse, dClear, hName, hCons_c, hNil_c, hTup, hLs, hSub, dNext, dSeq, dBreak, dCont, dDrop, dRet, dRetN, dIfS, dNever, dAsg, jList, jTup, jStr, jRng1, jRng2, jRng3, jEnum, jEnumT, jZip, jZipB, sqD, dFor, dForL, dForZ, dGetS, atI_0, atI_1, atI_2, atI_3, dLc, dAug, dStrI, dIntS, dOrd, dJoin, dInS, dCmpS, dSum, dAll, dAny, dRepS, CDivW, CPow, CMul, gK, gP, dwipe, its_d, dat_d, its_po, its_pf, dat_pf, dat_po, lenV_po, lenV_pf, MO.own.injEq, MO.fz.injEq, Mu.at_o, unD_nil, unD_cons, unD_map, unD_mapf, dsi_int_int, dsi_int_bool, dsi_int_list, dsi_int_tuple, dsi_int_str, dsi_bool_int, dsi_bool_bool, dsi_bool_list, dsi_bool_tuple, dsi_bool_str, dsi_str_int, dsi_str_bool, dsi_str_list, dsi_str_tuple, dsi_str_str, dsi_none_int, dsi_none_bool, dsi_none_list, dsi_none_tuple, dsi_none_str, dsi_list_int, dsi_list_bool, dsi_list_list, dsi_list_tuple, dsi_list_str, dsi_dict_int, dsi_dict_bool, dsi_dict_list, dsi_dict_tuple, dsi_dict_str, dsi_tuple_int, dsi_tuple_bool, dsi_tuple_list, dsi_tuple_tuple, dsi_tuple_str, lenV_l, lenV_t, lenV_s, Function.comp_apply, List.length_map, List.length_range, rgI_len, eqv_ii, eqv_bb, shaped_int, shaped_bool, shaped_none, shaped_nil, eqv_nil, Nat.zero_le, cutG_map, Mu.at_n, Mu.at_at, Mu.put_n, Mu.at_put, Mu.put_same, Mu.put_put,
  List.map_cons, List.map_nil, List.append_nil, List.map_map, List.length_cons, List.length_nil, Option.map_some, Option.map_none, List.getElem?_cons_zero, List.getElem?_cons_succ, List.set_cons_zero, List.set_cons_succ, DV.d.injEq, DV.r.injEq, DV.ty.injEq, PyData.int.injEq, PyData.bool.injEq, PyData.str.injEq, PyData.list.injEq, PyData.tuple.injEq, Option.some.injEq, exists_eq_left', exists_eq_left, exists_eq, exists_eq', exists_and_left, exists_and_right, and_assoc, true_and, and_true, List.cons.injEq, reduceCtorEq, false_or, or_false, false_and, and_false, exists_false, List.cons_append, List.nil_append, decide_eq_true_eq, if_true, if_false, ite_true, ite_false, Bool.false_eq_true, Bool.not_true, Bool.not_false, Bool.not_eq_true, decide_eq_false_iff_not, Classical.not_not, Int.le_refl, decide_true, decide_false, Bool.true_eq_false])
section
variable {xs : List DV} {μ : Mu} {Q : DQ}
theorem starts_no {a b : List Bool} (h : ¬ b <+: a) : Txt.startswith (bt a) (bt b) = false := by
  cases e : Txt.startswith (bt a) (bt b) with
  | false => rfl
  | true =>
    refine absurd ?_ h
    unfold Txt.startswith Builtin.Str.subAt at e
    rw [Bool.and_eq_true] at e
    have e2 := e.2
    rw [beq_iff_eq] at e2
    have e3 := congrArg Array.toList e2
    rw [Array.toList_extract, bt_toList, bt_toList] at e3
    have e4 : (a.map bc).take b.length = b.map bc := by
      have hb : (bt b).length = b.length := bt_len
      rw [← e3]
      simp [List.extract_eq_drop_take, hb]
    rw [← List.map_take] at e4
    have e5 : a.take b.length = b := bt_inj (by unfold bt; rw [e4])
    rw [← e5]
    exact List.take_prefix _ _
theorem rdd_right (h : dp_right xs μ Q) : right_BD (dEnds Q) (dstart N_right xs) μ := by
  obtain ⟨fl, rfl, fo, q⟩ := h
  show right_BD (dEnds Q) [some (.d (.list (fl.map pC))), none, none, none, none, none, none, none] μ
  have fx := fo.fx
  have ok : FlOk fl := fx.ok
  have hl := ok.len
  obtain ⟨R, hR⟩ : ∃ R : DS, R = dSeq right_10D (dSeq right_13D right_14D) := ⟨_, rfl⟩
  have hB : right_BD = dSeq right_1D (dSeq right_2D (dSeq right_4D (dSeq right_7D (dSeq right_9D R)))) := by rw [hR]; rfl
  rw [hB]
  clear hB
  walk_at "d"
  refine ⟨fl, rfl, ok, fun l1 h1 => ⟨fl, rfl, ok, fun l2 h2 => ?_⟩⟩
  obtain ⟨n2, h2⟩ := put_free h2
  obtain ⟨C, hC⟩ : ∃ C, C = kvC (cds fl) := ⟨_, rfl⟩
  have hCl : C.length = fl.length := by
    have := (cds_fst fl).length_eq
    rw [List.length_map, List.length_map] at this
    rw [hC, kvC_len, this]
  rw [← hC]
  obtain ⟨M, hM⟩ : ∃ M : Mu, M = (μ.put l1 (.dc (.dK C))).put l2 (.dc (.dK C)) := ⟨_, rfl⟩
  have o1 : M.o l1 = some (.dc (.dK C)) := by rw [hM, Mu.put_ne n2.symm]; exact Mu.put_same
  have o2 : M.o l2 = some (.dc (.dK C)) := by rw [hM]; exact Mu.put_same
  have sM : L2.Sub μ M := by rw [hM]; exact (Sub.refl.put h1).put h2
  rw [← hM]
  have hval : ∀ p ∈ fl, valV C (.inl (p.1 : Int)) = some (.str (bt (cdOf fl p.1))) := fun p hp => by rw [hC]; exact kvC_val (cds_mem (List.mem_map_of_mem hp))
  refine ⟨l2, _, rfl, o2, true, rfl, ?_⟩
  rw [if_neg (by decide)]
  refine ⟨l2, rfl, _, o2, ?_⟩
  rw [hCl, decide_eq_true rfl, if_neg (by decide)]
  obtain ⟨I, hI⟩ : ∃ I : Nat → DSt → Mu → Prop, I = fun i δ μ' => ∃ (x4 x5 : Option DV), μ' = M ∧ δ = [some (.d (.list (fl.map pC))), some (.r l1), some (.r l2), none, x4, x5, none, none] := ⟨_, rfl⟩
  refine DFo.map I (by rw [hI]; exact ⟨_, _, rfl, rfl⟩) ?_ ?_
  · intro i p δ μ' hp h
    rw [hI] at h
    obtain ⟨x4, x5, rfl, rfl⟩ := h
    have hv := hval p (List.mem_of_getElem? hp)
    rw [show (DV.d ∘ pC) p = .d (.tuple [.int p.1, .int p.2]) from rfl]
    walk_at "d"
    refine ⟨C, o2, o2, .inl p.1, rfl, ?_⟩
    rw [hv]
    refine ⟨rfl, _, rfl, true, rfl, ?_⟩
    rw [if_neg (by decide)]
    refine ⟨_, .inl ⟨_, .inl p.1, o2, rfl, hv.symm⟩, rfl, _, .inl ⟨_, .inl p.1, o1, rfl, hv.symm⟩, rfl, _, rfl, _, rfl, ?_⟩
    rw [decide_eq_true rfl, if_neg (by decide)]
    refine FgS.refl ?_
    rw [hI]
    exact ⟨_, _, rfl, rfl⟩
  · intro δ μ' h
    rw [hI] at h
    obtain ⟨x4, x5, rfl, rfl⟩ := h
    walk_at "d"
    refine ⟨C, o2, fun od => ⟨od, C, rfl, by unfold ksI; rw [List.length_map, hCl]; exact szK (by omega), ?_⟩⟩
    refine ⟨fun i acc μ1 => μ1 = μ'.put l2 (.dc (.frz od (.dK C))) ∧ acc = [], ⟨rfl, rfl⟩, ?_, ?_, ?_⟩
    · rintro i acc μ1 ⟨rfl, rfl⟩; exact Mu.put_same
    · rintro i y acc μ1 hy ⟨rfl, rfl⟩
      have ek : ksI C = (cds fl).map fun p => DV.d (.int (p.1 : Int)) := by rw [hC]; unfold ksI kvC; rw [List.map_map]; rfl
      rw [ek, List.getElem?_map] at hy
      obtain ⟨z, hz, rfl⟩ := Option.map_eq_some_iff.mp hy
      have hz5 : z.1 ≤ 511 := by
        have := (cds_fst fl).mem_iff.mp (List.mem_map_of_mem (List.mem_of_getElem? hz))
        obtain ⟨p, hp, e⟩ := List.mem_map.mp this
        rw [← e]; exact fo.sg p hp
      walk_at "d"
      refine ⟨_, _, _, rfl, ?_⟩
      refine ⟨_, rfl, ?_⟩
      rw [decide_eq_true (by omega), if_neg (by decide)]
    · rintro acc μ1 ⟨rfl, rfl⟩
      refine ⟨[], rfl, Mu.put_same, ?_⟩
      rw [if_neg (by decide), Mu.put_put]
      have eM : μ'.put l2 (.dc (.dK C)) = μ' := by rw [hM, Mu.put_put]
      rw [eM, hR]
      clear hR
      walk_at "d"
      obtain ⟨ss, hss⟩ : ∃ ss : List Str, ss = (cds fl).map fun p => bt p.2 := ⟨_, rfl⟩
      have hssl : ss.length = fl.length := by
        have := (cds_fst fl).length_eq
        rw [List.length_map, List.length_map] at this
        rw [hss, List.length_map, this]
      refine ⟨C, o2, by omega, ss, by rw [hC, hss]; unfold kvC; rw [List.map_map, List.map_map]; rfl, ?_⟩
      refine ⟨_, ss, rfl, by rw [its_d, List.map_map]; rfl, by omega, fun ys py => ?_⟩
      have hyl := py.length_eq
      have hR2 : ss.Pairwise fun a b => Txt.startswith a b = false ∧ Txt.startswith b a = false := by
        rw [hss, List.pairwise_map]
        exact fx.free.imp fun {a b} z => ⟨starts_no z.2, starts_no z.1⟩
      have hyR : ys.Pairwise fun a b => Txt.startswith a b = false ∧ Txt.startswith b a = false := (py.pairwise_iff fun {a b} z => ⟨z.2, z.1⟩).mpr hR2
      have hcut : cutG ((ys.map PyData.str).map DV.d) (some 1) none = ((ys.map PyData.str).drop 1).map DV.d := (cutG_fromB (b := 1)).trans (by rw [List.map_drop])
      refine ⟨_, its_d, (ys.map PyData.str).drop 1, by rw [hcut]; exact unD_map _, _, rfl, ?_⟩
      have ez : zpI (ys.map PyData.str) ((ys.map PyData.str).drop 1) = (ys.zip (ys.drop 1)).map fun q : Str × Str => DV.d (.tuple [.str q.1, .str q.2]) := by
        unfold zpI
        rw [← List.map_drop, List.zip_map, List.map_map]; rfl
      rw [ez]
      obtain ⟨J, hJ⟩ : ∃ J : Nat → DSt → Mu → Prop, J = fun i δ μ1 => ∃ (x6 x7 : Option DV), μ1 = μ' ∧ δ = [some (.d (.list (fl.map pC))), some (.r l1), some (.r l2), some (.d (.list (ys.map PyData.str))), x4, x5, x6, x7] := ⟨_, rfl⟩
      refine DFo.map J (by rw [hJ]; exact ⟨_, _, rfl, rfl⟩) ?_ ?_
      · intro i q δ μ1 hq h
        rw [hJ] at h
        obtain ⟨x6, x7, rfl, rfl⟩ := h
        have hno : Txt.startswith q.2 q.1 = false := by
          obtain ⟨q1, q2⟩ := q
          obtain ⟨e1, e2⟩ := List.getElem?_zip_eq_some.mp hq
          rw [List.getElem?_drop] at e2
          obtain ⟨b1, c1⟩ := List.getElem?_eq_some_iff.mp e1
          obtain ⟨b2, c2⟩ := List.getElem?_eq_some_iff.mp e2
          have := (List.pairwise_iff_getElem.mp hyR i (1 + i) b1 b2 (by omega)).2
          rw [c1, c2] at this
          exact this
        walk_at "d"
        rw [hno, if_neg (by decide)]
        refine FgS.refl ?_
        rw [hJ]
        exact ⟨_, _, rfl, rfl⟩
      · intro δ μ1 h
        rw [hJ] at h
        obtain ⟨x6, x7, rfl, rfl⟩ := h
        walk_at "d"
        refine ⟨fl, rfl, ok, fun l3 h3 => ?_⟩
        rw [← hC]
        have n23 : l2 ≠ l3 := by rintro rfl; rw [h3] at o2; cases o2
        refine ⟨l3, rfl, C, Mu.put_same, by rw [Mu.put_ne n23]; exact o2, fun p hp => ?_, ?_⟩
        · rw [hC] at hp
          obtain ⟨z, _, rfl⟩ := List.mem_map.mp hp
          rfl
        · have h3' : μ.o l3 = none := by
            rw [hM] at h3
            exact (put_free (put_free h3).2).2
          exact Fg.of (sM.put h3') q
end
end K41

namespace K41
open PySem L2
local macro_rules | `(tactic| walk_at "d") => `(tactic| try simp only [p_bits_of_1D, p_bits_of_BD, p_codes_1D, p_codes_2D, p_codes_3D, p_codes_4D, p_codes_5D, p_codes_6D, p_codes_7D, p_codes_8D, p_codes_BD, p_coded_1D, p_coded_2D, p_coded_BD, whole_1D, whole_BD, signs_1D, signs_2D, signs_3D, signs_4D, signs_5D, signs_6D, signs_7D, signs_8D, signs_9D, signs_10D, signs_11D, signs_12D, signs_BD, size_1D, size_2D, size_3D, size_4D, size_BD, leaves_1D, leaves_2D, leaves_3D, leaves_4D, leaves_5D, leaves_6D, leaves_7D, leaves_8D, leaves_9D, leaves_10D, leaves_11D, leaves_BD, full_1D, full_2D, full_3D, full_4D, full_5D, full_6D, full_7D, full_BD, bits_1D, bits_2D, bits_3D, bits_4D, bits_5D, bits_BD, codes_1D, codes_2D, codes_3D, codes_4D, codes_5D, codes_6D, codes_7D, codes_8D, codes_9D, codes_10D, codes_BD, right_1D, right_2D, right_3D, right_4D, right_5D, right_6D, right_7D, right_8D, right_9D, right_10D, right_11D, right_12D, right_13D, right_14D, right_BD, law_2D, law_3D, law_4D, law_5D, law_6D, law_7D, law_8D, law_9D, law_10D, law_11D, law_12D, law_13D, law_14D, law_RD, dEnds, dLVals, dStarts, dDispS, dDEq, dVar, dC, dCountI, dOp, dI0, dI, dEq, dEqS, dNeg, dNotV, dAndV, dOrV, dChain, dTest, dAnd, dOr, dNot, dYes, dIf, dNil, dCons, dTup, dLstF, dLstO, dEsc, dEscD, dCall, dCallK, dCallL, dRaise, dTrySet, dTrySetAs, dIdxS, dOpq, jTupA, hStar, dDc, dDGetX, dDGet1, dDGet2, dDAug, dDictO, dForW, dLcW, dDcW, jKeys, dLockE, dLockS, dCallW, CShl,  dSl3S, dSetX, dSetXK, dAsgX, dDropX, dDropXK, dRetX, dRaiseI, dTryH, dHand, dAtX, dIsiXT, dInsert, dGo, dIsiX, DV.ex.injEq,  dUpper, dDisp1, dListS, dEqT, isT_str, dNilT, dInC, dRepZ, dDNewO, dDIn, dDGet, dDPut, dLeT, dLenT, dLenK, dTupV, hTupV, dIxV, vD, Pl, toVs, toV, List.all_cons, List.all_nil, Bool.and_true, Option.bind_some, dCB, dBM, dNoPart, dPart, dIx, dIxT, dIxS, dCat, dCatT, dRep, dRepT, dDNew, dNeNil, dEqNil, dSl3, dAddS, dSl, dSlS, dSlTU, dSl3T, dDct, dCatTU, dLen, dAbs, dMin2, dMax2, dInt1, dIsi, dIsiL, dListOf, dTupleOf, ownT, dAppend, dIndexB, dIndexI, dLRng3, dLRng2, dStar, dIsB, dIsNotB, dIsN, dNotN, isNon_n, isNon_i, dPar, selG, selM, pickS, Df.dat, List.filterMap_cons, List.filterMap_nil, jEnC, dLc2, dLcL, dIn, dExtend, dExtendT, dReverse, dClear, hName, hCons_c, hNil_c, hTup, hLs, hSub, dNext, dSeq, dBreak, dCont, dDrop, dRet, dRetN, dIfS, dNever, dAsg, jList, jTup, jStr, jRng1, jRng2, jRng3, jEnum, jEnumT, jZip, jZipB, sqD, dFor, dForL, dForZ, dGetS, atI_0, atI_1, atI_2, atI_3, dLc, dAug, dStrI, dIntS, dOrd, dJoin, dInS, dCmpS, dSum, dAll, dAny, dRepS, CDivW, CPow, CMul, gK, gP, dwipe, its_d, dat_d, its_po, its_pf, dat_pf, dat_po, lenV_po, lenV_pf, MO.own.injEq, MO.fz.injEq, Mu.at_o, unD_nil, unD_cons, unD_map, unD_mapf, dsi_int_int, dsi_int_bool, dsi_int_list, dsi_int_tuple, dsi_int_str, dsi_bool_int, dsi_bool_bool, dsi_bool_list, dsi_bool_tuple, dsi_bool_str, dsi_str_int, dsi_str_bool, dsi_str_list, dsi_str_tuple, dsi_str_str, dsi_none_int, dsi_none_bool, dsi_none_list, dsi_none_tuple, dsi_none_str, dsi_list_int, dsi_list_bool, dsi_list_list, dsi_list_tuple, dsi_list_str, dsi_dict_int, dsi_dict_bool, dsi_dict_list, dsi_dict_tuple, dsi_dict_str, dsi_tuple_int, dsi_tuple_bool, dsi_tuple_list, dsi_tuple_tuple, dsi_tuple_str, lenV_l, lenV_t, lenV_s, Function.comp_apply, List.length_map, List.length_range, rgI_len, eqv_ii, eqv_bb, shaped_int, shaped_bool, shaped_none, shaped_nil, eqv_nil, Nat.zero_le, cutG_map, Mu.at_n, Mu.at_at, Mu.put_n, Mu.at_put, Mu.put_same, Mu.put_put,
  List.map_cons, List.map_nil, List.append_nil, List.map_map, List.length_cons, List.length_nil, Option.map_some, Option.map_none, List.getElem?_cons_zero, List.getElem?_cons_succ, List.set_cons_zero, List.set_cons_succ, DV.d.injEq, DV.r.injEq, DV.ty.injEq, PyData.int.injEq, PyData.bool.injEq, PyData.str.injEq, PyData.list.injEq, PyData.tuple.injEq, Option.some.injEq, exists_eq_left', exists_eq_left, exists_eq, exists_eq', exists_and_left, exists_and_right, and_assoc, true_and, and_true, List.cons.injEq, reduceCtorEq, false_or, or_false, false_and, and_false, exists_false, List.cons_append, List.nil_append, decide_eq_true_eq, if_true, if_false, ite_true, ite_false, Bool.false_eq_true, Bool.not_true, Bool.not_false, Bool.not_eq_true, decide_eq_false_iff_not, Classical.not_not, Int.le_refl, decide_true, decide_false, Bool.true_eq_false])
section
variable {xs : List DV} {μ : Mu} {Q : DQ}
theorem lay_map {α : Type} {f : α → PyData} (h : ∀ x, (f x).canLay0 = true) : ∀ xs : List α, PyData.canLayAll0 (xs.map f) = true
  | [] => rfl
  | x :: xs => by rw [List.map_cons, PyData.canLayAll0, h x, lay_map h xs]; rfl
theorem dep_map {α : Type} {f : α → PyData} {n : Nat} (h : ∀ x, (f x).depth ≤ n) : ∀ xs : List α, PyData.depthAll (xs.map f) ≤ n
  | [] => Nat.zero_le _
  | x :: xs => by
    rw [List.map_cons, PyData.depthAll]
    have := h x; have := dep_map h xs; omega
theorem shp_map {α : Type} {f : α → PyData} (h1 : ∀ x, (f x).canLay0 = true) (h2 : ∀ x, (f x).depth ≤ 20) (xs : List α) : SeqAt.shaped (.list (xs.map f)) = true := by
  unfold SeqAt.shaped
  rw [PyData.canLay0, lay_map h1, PyData.depth]
  have := dep_map h2 xs
  simp; omega
theorem shp_lC (ps : List (Nat × Nat)) : SeqAt.shaped (.list (ps.map pC)) = true := shp_map (f := pC) (fun p => by simp [pC, PyData.canLay0, PyData.canLayAll0]) (fun p => by simp [pC, PyData.depth, PyData.depthAll]) ps
theorem eqv_me {d : PyData} (h : SeqAt.shaped d = true) : PyData.eqv d d = true := SeqAt.eqv_refl d (SeqAt.canLay_of_shaped h)
theorem rdd_law : law_RD { nx := fun _ _ => False, rt := fun x _ => x = .d (.bool true) } (none :: some .pen :: List.replicate 8 none) mu0 := by
  obtain ⟨D, hD⟩ : ∃ D : DEnds, D = { nx := fun _ _ => False, rt := fun x _ => x = .d (.bool true) } := ⟨_, rfl⟩
  rw [← hD]
  show law_RD D [none, some .pen, none, none, none, none, none, none, none, none] mu0
  unfold law_RD
  generalize hT : law_14D = T
  walk_at "d"
  refine ⟨by decide, by decide, ?_⟩
  obtain ⟨I, hI⟩ : ∃ I : Nat → DSt → Mu → Prop, I = fun i δ μ' => ∃ (k : Nat) (x2 x3 x4 x5 x6 x7 x8 x9 : Option DV), k ≤ i * 3000 ∧ μ' = mu0.at k ∧ δ = [none, some .pen, x2, x3, x4, x5, x6, x7, x8, x9] := ⟨_, rfl⟩
  refine DFo.range I (by rw [hI]; exact ⟨0, none, none, none, none, none, none, none, none, Nat.zero_le _, rfl, rfl⟩) ?_ ?_
  · intro i δ μ' hi h
    rw [hI] at h
    obtain ⟨k, x2, x3, x4, x5, x6, x7, x8, x9, hk, rfl, rfl⟩ := h
    have hi : i < 3 := hi
    walk_at "d"
    refine ⟨rfl, by show k < _; omega, fun fl k1 fo p1 q1 => ?_⟩
    have p1 : k ≤ k1 := p1
    have q1 : k1 ≤ k + 2000 := q1
    have fx := fo.fx
    have ok : FlOk fl := fx.ok
    have hl := fo.l2
    have hl1 := fo.l1
    walk_at "d"
    refine ⟨_, unD_mapf pC fl, fl, rfl, fo, true, rfl, ?_⟩
    rw [if_neg (by decide)]
    refine ⟨fl, rfl, ok, fun l h1 => ?_⟩
    have hval : ∀ s : Nat, s ∈ fl.map (·.1) → valV (kvC (cds fl)) (.inl (s : Int)) = some (.str (bt (cdOf fl s))) := fun s hs => kvC_val (cds_mem hs)
    obtain ⟨C, hC⟩ : ∃ C, C = kvC (cds fl) := ⟨_, rfl⟩
    rw [← hC] at hval ⊢
    refine tk (by show k1 < _; omega) (by decide) (by decide) fun r r0 r1 => ⟨_, rfl, by omega, by omega, sz (by omega), ?_⟩
    simp only [Mu.at_put, Mu.at_at, Mu.at_n]
    refine DLc.drawR (fun b : Nat => .d (.int b)) (fun b => b ∈ fl.map (·.1)) 1 (fun m i P N hi a2 b2 hP => ?_) (fun ts m5 hl5 hts m6 m7 => ?_)
    · have a2 : k1 + 1 ≤ m := a2
      have b2 : m ≤ k1 + 1 + 1 * i := b2
      walk_at "d"
      refine tk (by show m < _; omega) (by omega) (by omega) fun v v0 v1 => ⟨_, rfl, ?_⟩
      obtain ⟨v, rfl⟩ := Int.eq_ofNat_of_zero_le v0
      have hv : v < fl.length := by omega
      refine ⟨.d (pC fl[v]), atI_nat' (j := v) rfl (by rw [List.getElem?_map, List.getElem?_eq_getElem hv]; rfl), _, rfl, _, rfl, ?_⟩
      exact hP fl[v].1 (m + 1) (List.mem_map_of_mem (List.getElem_mem hv)) (by omega) (by omega)
    have m6 : k1 + 1 ≤ m5 := m6
    have m7 : m5 ≤ k1 + 1 + 1 * r.toNat := m7
    have hl5 : ts.length = r.toNat := hl5
    refine ⟨_, unD_mapf (fun b : Nat => PyData.int b) ts, ts, fl, rfl, fx, hts, by omega, ?_⟩
    refine ⟨_, rfl, true, rfl, ?_⟩
    rw [if_neg (by decide)]
    refine ⟨by rw [List.length_map]; exact sz (by omega), ?_⟩
    have em : (ts.map fun b : Nat => PyData.int b).map DV.d = ts.map fun b : Nat => DV.d (.int b) := by rw [List.map_map]; rfl
    rw [em]
    refine DLc.pure (f := fun b : Nat => DV.d (.int b)) (fun n : Nat => .d (.str (bt (cdOf fl n)))) (fun i n P N hn hP => ?_) ?_
    · walk_at "d"
      have hn1 := hts n (List.mem_of_getElem? hn)
      exact ⟨_, .inl ⟨_, .inl n, Mu.put_same, rfl, (hval n hn1).symm⟩, rfl, hP⟩
    refine ⟨_, unD_mapf (fun n : Nat => PyData.str (bt (cdOf fl n))) _, (ts.map (cdOf fl)).map bt, by rw [List.map_map, List.map_map, List.map_map]; rfl, ?_, _, rfl, ?_⟩
    · have e1 : (((ts.map (cdOf fl)).map bt).map (·.length)).sum = (ts.map (cdOf fl)).flatten.length := by
        rw [List.map_map, List.length_flatten]
        congr 1
        exact List.map_congr_left fun b _ => bt_len
      have e2 : (Str.ofString "").length = 0 := by decide +kernel
      have := flat_len (m := 60) (bs := ts.map (cdOf fl)) fun b hb => by
        obtain ⟨s, hs, rfl⟩ := List.mem_map.mp hb
        exact cdOf_len (fun p hp => (fx.ln p hp).2) s
      rw [List.length_map] at this
      rw [e1, e2]; omega
    rw [join_bt, ← List.flatMap_def, decide_eq_true rfl, if_neg (by decide)]
    refine ⟨shp_lC fl, shp_lC fl, ?_⟩
    rw [eqv_me (shp_lC fl), if_neg (by decide)]
    refine ⟨ts, fl, rfl, fx, hts, by omega, _, rfl, _, rfl, ?_⟩
    rw [decide_eq_true rfl, if_neg (by decide)]
    have enil : bt ([].flatMap (cdOf fl)) = Str.ofString "" := by
      rw [List.flatMap_nil]; decide +kernel
    refine ⟨[], fl, rfl, fx, by simp, by decide, _, rfl, ?_⟩
    rw [enil, decide_eq_true rfl, if_neg (by decide)]
    refine FgS.of ((Sub.refl (μ := mu0.at m5)).put h1) ?_
    rw [hI]
    exact ⟨m5, _, _, _, _, _, _, _, _, by omega, rfl, rfl⟩
  · intro δ μ' h
    rw [hI] at h
    obtain ⟨k, x2, x3, x4, x5, x6, x7, x8, x9, hk, rfl, rfl⟩ := h
    rw [← hT]
    walk_at "d"
    have ok5 : FlOk [(5, 1)] := ⟨by decide, by decide, by decide⟩
    refine ⟨sz (by decide), sz (by decide), [(5, 1)], rfl, ok5, fun l1 h1 l2 h2 => ?_⟩
    obtain ⟨n2, _⟩ := put_free h2
    have e0 : bt (btn 0 1) = Str.ofString "0" := by decide +kernel
    have e1 : kvC (cds [(5, 1)]) = [(.inl 5, .str (Str.ofString "0"))] := by rw [← e0]; rfl
    refine ⟨l1, rfl, [(.inl 5, .str (Str.ofString "0"))], by rw [Mu.put_ne n2.symm, Mu.put_same, e1], rfl, fun p hp => ?_, by rw [hD]⟩
    rw [List.mem_singleton.mp hp]
end
end K41

namespace K41
open PySem L2
local macro_rules | `(tactic| walk_at "e") => `(tactic| try simp only [iList, iTup, iRng1, iRng2, iRng3, iEnum, iZip, iEnC, tLRng3, tBM0, rMin2, rMax2, tFor_eq, tLc_eq, tYes, wipe, tSeq, tNext, tIfS, tTest, tB, tAnd, tOr, tNot, tOp, tUn, tVar, tC, tAsg, gName, gSub, gCons_c, gNil_c, tDrop, tRet, tIf, tCB, tCons, tNil, tCall, tCallK, tChain, tAndV, tOrV, tNotV, tPart, tNoPart, tSl, tSl3, tBM, rU, rIsB, rIsNotB, rI0, rI, rEq_ii, rEq_bb, rEq_ss, rNe_ii, rNe_bb, rNe_ss, CDiv, CDivW, CPow, CMul, rAbs, rInt1, tTup, tLst,
  List.getElem?_cons_zero, List.getElem?_cons_succ, List.set_cons_zero, List.set_cons_succ, V.int.injEq, V.bl.injEq, V.ref.injEq, V.str.injEq, Option.some.injEq, exists_eq_left', exists_eq_left, exists_and_left, exists_and_right, and_assoc, true_and, and_true, List.cons.injEq, reduceCtorEq, false_or, or_false, false_and, and_false, exists_false, List.cons_append, List.nil_append, decide_eq_true_eq, if_true, if_false, ite_true, ite_false, Bool.false_eq_true, Bool.not_true, Bool.not_false, Bool.not_eq_true, decide_eq_false_iff_not, Classical.not_not, decide_true, decide_false])
section
variable {K : PySem.W.Frag} {vs : List V} {H : Hp} {Q : VK} {E : XK}
theorem rd_take (h : sp_take K vs H Q E) : take_B K { nx := fun _ H' => Q .non H', rt := Q } (start N_take vs) H := by
  obtain ⟨p, q, u, n, rfl, ⟨ns, a, g, hp, hq, hl, ha0, ha1⟩, hn, hu0, hu1, k⟩ := h
  show take_B K { nx := fun _ H' => Q .non H', rt := Q } [some (.ref p), some (.int u), none, none, none, none, none] H
  have nqp : q ≠ p := ne_of hq hp (by intro z; cases ns <;> simp at z)
  unfold take_B take_4
  walk_at "e"
  refine ixL hp rfl ?_
  walk_at "e"
  split
  · -- the great number's rest
    unfold take_1
    walk_at "e"
    refine ixL hp rfl ?_
    walk_at "e"
    refine ⟨hu0, ?_⟩
    unfold take_2
    walk_at "e"
    refine ixL hp rfl ?_
    walk_at "e"
    refine ⟨hu0, by omega, ?_⟩
    refine setL (j := 2) hp rfl ?_
    unfold take_3
    walk_at "e"
    refine k _ _ (Int.emod_nonneg _ (by omega)) (Int.emod_lt_of_pos _ hu0) ⟨ns, a, g / u, upd_same, by rw [upd_ne nqp]; exact hq, hl, ha0, by omega⟩ Keep.upd
  · unfold take_5
    walk_at "e"
    refine ixL hp rfl ?_
    walk_at "e"
    unfold take_6
    walk_at "e"
    refine setL (j := 1) hp rfl ?_
    have hp1 : upd H p (.lst ([V.ref q, .int a, .int g].set 1 (.int (a + 1)))) p = some (.lst [.ref q, .int (a + 1), .int g]) := upd_same
    have hq1 : upd H p (.lst ([V.ref q, .int a, .int g].set 1 (.int (a + 1)))) q = some (.lst (ns.map V.int)) := by rw [upd_ne nqp]; exact hq
    have kp1 : Keep p H (upd H p (.lst ([V.ref q, .int a, .int g].set 1 (.int (a + 1))))) := Keep.upd
    generalize upd H p (.lst ([V.ref q, .int a, .int g].set 1 (.int (a + 1)))) = H1 at hp1 hq1 kp1 ⊢
    unfold take_7
    walk_at "e"
    refine ⟨.inl (by decide), ?_⟩
    have rest : ∀ (c : Int) (H2 : Hp), H2 p = some (.lst [.ref q, .int (a + 1), .int g]) → H2 q = some (.lst (ns.map V.int)) → Keep p H H2 →
        tSeq (take_13 K) (tSeq (take_14 K) (tSeq (take_15 K) (tSeq (take_17 K) (take_18 K)))) { nx := fun x H' => Q V.non H', rt := Q } [some (V.ref p), some (V.int u), some (V.int a), some (V.int c), none, none, none] H2 := by
      intro c H2 hp2 hq2 kp2
      have fin : ∀ (H3 : Hp) (g' : Int), H3 p = some (.lst [.ref q, .int (a + 1), .int g']) → H3 q = some (.lst (ns.map V.int)) → PenAt H3 p q (n + 1) := fun H3 g' h1 h2 => ⟨ns, a + 1, g', h1, h2, hl, by omega, by omega⟩
      have low : tSeq (take_14 K) (tSeq (take_15 K) (tSeq (take_17 K) (take_18 K))) { nx := fun x H' => Q V.non H', rt := Q } [some (V.ref p), some (V.int u), some (V.int a), some (V.int c), none, none, none] H2 := by
        unfold take_14
        walk_at "e"
        refine ⟨by decide, .inl (by decide), .inl (by decide), .inl (by omega), by decide, by decide, num_bd ha0 ha1 (by omega), by decide, ?_⟩
        have y1 := Int.emod_nonneg ((c % 2147483629 + 40709 * a + 7919 * a * a + 31) ^ Int.toNat 5) (b := 2147483647) (by decide)
        have y2 := Int.emod_lt_of_pos ((c % 2147483629 + 40709 * a + 7919 * a * a + 31) ^ Int.toNat 5) (b := 2147483647) (by decide)
        generalize (c % 2147483629 + 40709 * a + 7919 * a * a + 31) ^ Int.toNat 5 % 2147483647 = y at y1 y2 ⊢
        unfold take_15
        walk_at "e"
        refine ⟨.inl (by omega), .inl (by decide), by decide, by decide, by omega, by decide, ?_⟩
        have z1 := Int.emod_nonneg ((y * 48271 + 69621 * a + 11) ^ Int.toNat 3) (b := 2147483587) (by decide)
        have z2 := Int.emod_lt_of_pos ((y * 48271 + 69621 * a + 11) ^ Int.toNat 3) (b := 2147483587) (by decide)
        generalize (y * 48271 + 69621 * a + 11) ^ Int.toNat 3 % 2147483587 = z at z1 z2 ⊢
        have ends : ∀ m : Int, take_18 K { nx := fun x H' => Q V.non H', rt := Q } [some (V.ref p), some (V.int u), some (V.int a), some (V.int c), some (.int m), none, none] H2 := by
          intro m
          unfold take_18
          walk_at "e"
          refine ⟨by decide, by decide, hu0, k _ _ (Int.emod_nonneg _ (by omega)) (Int.emod_lt_of_pos _ hu0) (fin _ _ hp2 hq2) kp2⟩
        unfold take_17
        walk_at "e"
        refine ⟨by decide, by decide, by decide, ?_⟩
        split
        · unfold take_16
          walk_at "e"
          exact ⟨by decide, by decide, by omega, ends _⟩
        · exact ends _
      unfold take_13
      walk_at "e"
      refine ixL hp2 rfl ?_
      refine lenL hq2 ?_
      walk_at "e"
      split
      · refine ⟨by decide, by decide, by decide, ?_⟩
        refine ite2 (fun _ => ?_) (fun _ => ?_)
        · unfold take_10
          walk_at "e"
          refine ⟨by decide, by decide, by decide, .inl (by decide), ?_⟩
          unfold take_11
          walk_at "e"
          refine ⟨hu0, by omega, setL (j := 2) hp2 rfl ?_⟩
          unfold take_12
          walk_at "e"
          exact ⟨hu0, k _ _ (Int.emod_nonneg _ (by omega)) (Int.emod_lt_of_pos _ hu0) (fin _ _ upd_same (by rw [upd_ne nqp]; exact hq2)) (kp2.trans Keep.upd)⟩
        · exact low
      · exact low
    unfold take_9
    walk_at "e"
    refine ixL hp1 rfl ?_
    walk_at "e"
    refine ⟨Nat.zero_le _, fun z hz => ?_⟩
    have s2 : Same H1 (upd H1 z (.lst [])) := Same.upd hz
    have hz2 : upd H1 z (.lst []) z = some (.lst []) := upd_same
    have hp2 := s2 _ _ hp1
    have hq2 := s2 _ _ hq1
    have kp2 := kp1.trans s2.keep
    generalize upd H1 z (.lst []) = H2 at *
    refine neD (.lst (SqL.of hq2) (DpAll.ints ns)) (.lst (SqL.of hz2) .nil) (shaped_ints ns) shaped_nil ?_
    walk_at "e"
    cases ns with
    | nil => exact iteF (rest _ _ hp2 hq2 kp2)
    | cons m ms =>
      refine iteT ?_
      show take_8 K _ _ _
      unfold take_8
      walk_at "e"
      refine ixL hp2 rfl ?_
      walk_at "e"
      refine ixL hp2 rfl ?_
      refine lenL hq2 ?_
      walk_at "e"
      have l0 : 0 < (((m :: ms).map V.int).length : Int) := by rw [List.length_map, List.length_cons]; omega
      obtain ⟨v, e1, e2⟩ := atI_mod (xs := (m :: ms).map V.int) (Int.emod_nonneg a (show (((m :: ms).map V.int).length : Int) ≠ 0 by omega)) (Int.emod_lt_of_pos a l0)
      refine ⟨l0, ixL hq2 e1 ?_⟩
      rw [List.getElem?_map] at e2
      obtain ⟨c, _, rfl⟩ := Option.map_eq_some_iff.mp e2
      exact rest _ _ hp2 hq2 kp2
theorem rd_pen (h : sp_pen K vs H Q E) : pen_B K { nx := fun _ H' => Q .non H', rt := Q } (start N_pen vs) H := by
  obtain ⟨a, ns, rfl, hS, hl, k⟩ := h
  show pen_B K { nx := fun _ H' => Q .non H', rt := Q } [some (.ref a), none] H
  unfold pen_B pen_1
  walk_at "e"
  refine slL hS fun l hl' => ?_
  have hc : cutV (ns.map V.int) none (some 63) = ns.map V.int := cut_all (k := 63) (by rw [List.length_map]; exact hl)
  rw [hc]
  have s1 : Same H (upd H l (.lst (ns.map V.int))) := Same.upd hl'
  have hl1 : upd H l (.lst (ns.map V.int)) l = some (.lst (ns.map V.int)) := upd_same
  generalize upd H l (.lst (ns.map V.int)) = H1 at *
  walk_at "e"
  refine ⟨⟨_, SqL.of hl1⟩, fun D hD => LcB.list (xs := ns.map V.int) (fun i H2 => H2 D = some (.lst ((ns.map V.int).take i)) ∧ Same H1 H2) ⟨upd_same, Same.upd hD⟩ (fun i H2 _ ⟨_, s2⟩ => SqL.of (s2 _ _ hl1)) ?_ ?_⟩
  · rintro i x H2 hx ⟨h1, s2⟩
    have hi : i < (ns.map V.int).length := (List.getElem?_eq_some_iff.mp hx).1
    walk_at "e"
    refine ⟨_, h1, ?_, ?_, ?_⟩
    · rw [List.length_take]; exact small1000 (by rw [List.length_map]; omega)
    · show upd H2 D _ D = _
      rw [upd_same, List.take_add_one, hx]; rfl
    · intro b o e
      rw [upd_ne (ne_of_none e hD)]
      exact s2 b o e
  · rintro H2 ⟨h1, s2⟩
    rw [List.take_length] at h1
    walk_at "e"
    refine ⟨by show 3 ≤ sizeLine; decide, fun p hp => ?_⟩
    refine k p D _ ((s1.trans s2).free hp) (s1.free hD) ⟨ns, 0, 0, upd_same, by rw [upd_ne (ne_of_none h1 hp)]; exact h1, hl, by decide, by decide⟩ ((s1.trans s2).trans (Same.upd hp))
end
theorem rd_p_bits_of {K : PySem.W.Frag} {vs : List V} {H : Hp} {Q : VK} {E : XK} (h : sp_p_bits_of K vs H Q E) : p_bits_of_B K { nx := fun _ H' => Q .non H', rt := Q } (start N_p_bits_of vs) H := rdd_of so_p_bits_of (fun _ _ _ h => rdd_p_bits_of h) h
theorem rd_p_codes {K : PySem.W.Frag} {vs : List V} {H : Hp} {Q : VK} {E : XK} (h : sp_p_codes K vs H Q E) : p_codes_B K { nx := fun _ H' => Q .non H', rt := Q } (start N_p_codes vs) H := rdd_of so_p_codes (fun _ _ _ h => rdd_p_codes h) h
theorem rd_p_coded {K : PySem.W.Frag} {vs : List V} {H : Hp} {Q : VK} {E : XK} (h : sp_p_coded K vs H Q E) : p_coded_B K { nx := fun _ H' => Q .non H', rt := Q } (start N_p_coded vs) H := rdd_of so_p_coded (fun _ _ _ h => rdd_p_coded h) h
theorem rd_whole {K : PySem.W.Frag} {vs : List V} {H : Hp} {Q : VK} {E : XK} (h : sp_whole K vs H Q E) : whole_B K { nx := fun _ H' => Q .non H', rt := Q } (start N_whole vs) H := rdd_of so_whole (fun _ _ _ h => rdd_whole h) h
theorem rd_signs {K : PySem.W.Frag} {vs : List V} {H : Hp} {Q : VK} {E : XK} (h : sp_signs K vs H Q E) : signs_B K { nx := fun _ H' => Q .non H', rt := Q } (start N_signs vs) H := rdd_of so_signs (fun _ _ _ h => rdd_signs h) h
theorem rd_size {K : PySem.W.Frag} {vs : List V} {H : Hp} {Q : VK} {E : XK} (h : sp_size K vs H Q E) : size_B K { nx := fun _ H' => Q .non H', rt := Q } (start N_size vs) H := rdd_of so_size (fun _ _ _ h => rdd_size h) h
theorem rd_leaves {K : PySem.W.Frag} {vs : List V} {H : Hp} {Q : VK} {E : XK} (h : sp_leaves K vs H Q E) : leaves_B K { nx := fun _ H' => Q .non H', rt := Q } (start N_leaves vs) H := rdd_of so_leaves (fun _ _ _ h => rdd_leaves h) h
theorem rd_full {K : PySem.W.Frag} {vs : List V} {H : Hp} {Q : VK} {E : XK} (h : sp_full K vs H Q E) : full_B K { nx := fun _ H' => Q .non H', rt := Q } (start N_full vs) H := rdd_of so_full (fun _ _ _ h => rdd_full h) h
theorem rd_bits {K : PySem.W.Frag} {vs : List V} {H : Hp} {Q : VK} {E : XK} (h : sp_bits K vs H Q E) : bits_B K { nx := fun _ H' => Q .non H', rt := Q } (start N_bits vs) H := rdd_of so_bits (fun _ _ _ h => rdd_bits h) h
theorem rd_codes {K : PySem.W.Frag} {vs : List V} {H : Hp} {Q : VK} {E : XK} (h : sp_codes K vs H Q E) : codes_B K { nx := fun _ H' => Q .non H', rt := Q } (start N_codes vs) H := rdd_of so_codes (fun _ _ _ h => rdd_codes h) h
theorem rd_right {K : PySem.W.Frag} {vs : List V} {H : Hp} {Q : VK} {E : XK} (h : sp_right K vs H Q E) : right_B K { nx := fun _ H' => Q .non H', rt := Q } (start N_right vs) H := rdd_of so_right (fun _ _ _ h => rdd_right h) h
theorem rd_law {K : PySem.W.Frag} {vs : List V} {H : Hp} {Q : VK} {E : XK} (h : sp_law K vs H Q E) : law_B K { nx := fun _ H' => Q .non H', rt := Q } (start N_law vs) H := by
  obtain ⟨a, ns, rfl, hS, hl, k⟩ := h
  exact law_of (k := 8) so_law_R rdd_law ns hS hl k
end K41

namespace K41
open PySem L2
section
variable {P : Program} {w : World} {K : PySem.W.Frag} {mg : Str → Option Value} {base : Heap}
set_option maxHeartbeats 2000000 in
theorem ok_p_bits_of {f : Addr} {fd : FuncData} (F : Fun K "bits_of" "bits_of" s_p_bits_of f fd) (B : Bl mg) : FnOk P w K mg base CX0 1 f fd P_p_bits_of (sp_p_bits_of K) := by
  refine F.ok sc_p_bits_of (fun vs H Q E h => ?_) (fun cdv A outer s H vs Q E hr h => ⟨_, tm_p_bits_of B hr, rd_p_bits_of h⟩)
  exact len_of (n := P_p_bits_of.length) (fun xs μ QD h => by first | (obtain ⟨rfl, _⟩ := h; rfl) | (obtain ⟨_, rfl, _⟩ := h; rfl) | (obtain ⟨_, _, rfl, _⟩ := h; rfl) | (obtain ⟨_, _, _, rfl, _⟩ := h; rfl) | (obtain ⟨_, _, _, _, rfl, _⟩ := h; rfl) | (obtain ⟨_, _, _, _, _, rfl, _⟩ := h; rfl) | (obtain ⟨_, _, _, _, _, _, rfl, _⟩ := h; rfl) | (obtain ⟨_, _, _, _, _, _, _, rfl, _⟩ := h; rfl) | (obtain ⟨_, _, _, _, _, _, _, _, rfl, _⟩ := h; rfl) | (obtain ⟨_, _, _, _, _, _, _, _, _, rfl, _⟩ := h; rfl) | (obtain ⟨_, _, _, _, _, _, _, _, _, _, rfl, _⟩ := h; rfl) | (obtain ⟨_, _, _, _, _, _, _, _, _, _, _, rfl, _⟩ := h; rfl) | (obtain ⟨_, _, _, _, _, _, _, _, _, _, _, _, rfl, _⟩ := h; rfl)) h
set_option maxHeartbeats 2000000 in
theorem ok_p_codes {f : Addr} {fd : FuncData} (F : Fun K "codes" "codes" s_p_codes f fd) (B : Bl mg) (C_p_bits_of : Cal P w K mg base "bits_of" 1 P_p_bits_of (sp_p_bits_of K)) (h_sorted : mg "sorted" = none) : FnOk P w K mg base CX0 2 f fd P_p_codes (sp_p_codes K) := by
  refine F.ok sc_p_codes (fun vs H Q E h => ?_) (fun cdv A outer s H vs Q E hr h => ⟨_, tm_p_codes B C_p_bits_of h_sorted hr, rd_p_codes h⟩)
  exact len_of (n := P_p_codes.length) (fun xs μ QD h => by first | (obtain ⟨rfl, _⟩ := h; rfl) | (obtain ⟨_, rfl, _⟩ := h; rfl) | (obtain ⟨_, _, rfl, _⟩ := h; rfl) | (obtain ⟨_, _, _, rfl, _⟩ := h; rfl) | (obtain ⟨_, _, _, _, rfl, _⟩ := h; rfl) | (obtain ⟨_, _, _, _, _, rfl, _⟩ := h; rfl) | (obtain ⟨_, _, _, _, _, _, rfl, _⟩ := h; rfl) | (obtain ⟨_, _, _, _, _, _, _, rfl, _⟩ := h; rfl) | (obtain ⟨_, _, _, _, _, _, _, _, rfl, _⟩ := h; rfl) | (obtain ⟨_, _, _, _, _, _, _, _, _, rfl, _⟩ := h; rfl) | (obtain ⟨_, _, _, _, _, _, _, _, _, _, rfl, _⟩ := h; rfl) | (obtain ⟨_, _, _, _, _, _, _, _, _, _, _, rfl, _⟩ := h; rfl) | (obtain ⟨_, _, _, _, _, _, _, _, _, _, _, _, rfl, _⟩ := h; rfl)) h
set_option maxHeartbeats 2000000 in
theorem ok_p_coded {f : Addr} {fd : FuncData} (F : Fun K "coded" "coded" s_p_coded f fd) (B : Bl mg) (C_p_codes : CalW P w K mg base "codes" 2 P_p_codes (sp_p_codes K) (BF_p_codes K)) : FnOk P w K mg base CX0 3 f fd P_p_coded (sp_p_coded K) := by
  refine F.ok sc_p_coded (fun vs H Q E h => ?_) (fun cdv A outer s H vs Q E hr h => ⟨_, tm_p_coded B C_p_codes hr, rd_p_coded h⟩)
  exact len_of (n := P_p_coded.length) (fun xs μ QD h => by first | (obtain ⟨rfl, _⟩ := h; rfl) | (obtain ⟨_, rfl, _⟩ := h; rfl) | (obtain ⟨_, _, rfl, _⟩ := h; rfl) | (obtain ⟨_, _, _, rfl, _⟩ := h; rfl) | (obtain ⟨_, _, _, _, rfl, _⟩ := h; rfl) | (obtain ⟨_, _, _, _, _, rfl, _⟩ := h; rfl) | (obtain ⟨_, _, _, _, _, _, rfl, _⟩ := h; rfl) | (obtain ⟨_, _, _, _, _, _, _, rfl, _⟩ := h; rfl) | (obtain ⟨_, _, _, _, _, _, _, _, rfl, _⟩ := h; rfl) | (obtain ⟨_, _, _, _, _, _, _, _, _, rfl, _⟩ := h; rfl) | (obtain ⟨_, _, _, _, _, _, _, _, _, _, rfl, _⟩ := h; rfl) | (obtain ⟨_, _, _, _, _, _, _, _, _, _, _, rfl, _⟩ := h; rfl) | (obtain ⟨_, _, _, _, _, _, _, _, _, _, _, _, rfl, _⟩ := h; rfl)) h
set_option maxHeartbeats 2000000 in
theorem ok_pen {f : Addr} {fd : FuncData} (F : Fun K "_law_pen" "_law_pen" s_pen f fd) (B : Bl mg) : FnOk P w K mg base CX0 1 f fd P_pen (sp_pen K) := by
  refine F.ok sc_pen (fun vs H Q E h => ?_) (fun cdv A outer s H vs Q E hr h => ⟨_, tm_pen B hr, rd_pen h⟩)
  first | (obtain ⟨rfl, _⟩ := h; rfl) | (obtain ⟨_, rfl, _⟩ := h; rfl) | (obtain ⟨_, _, rfl, _⟩ := h; rfl) | (obtain ⟨_, _, _, rfl, _⟩ := h; rfl) | (obtain ⟨_, _, _, _, rfl, _⟩ := h; rfl) | (obtain ⟨_, _, _, _, _, rfl, _⟩ := h; rfl) | (obtain ⟨_, _, _, _, _, _, rfl, _⟩ := h; rfl) | (obtain ⟨_, _, _, _, _, _, _, rfl, _⟩ := h; rfl) | (obtain ⟨_, _, _, _, _, _, _, _, rfl, _⟩ := h; rfl) | (obtain ⟨_, _, _, _, _, _, _, _, _, rfl, _⟩ := h; rfl) | (obtain ⟨_, _, _, _, _, _, _, _, _, _, rfl, _⟩ := h; rfl) | (obtain ⟨_, _, _, _, _, _, _, _, _, _, _, rfl, _⟩ := h; rfl) | (obtain ⟨_, _, _, _, _, _, _, _, _, _, _, _, rfl, _⟩ := h; rfl)
set_option maxHeartbeats 2000000 in
theorem ok_take {f : Addr} {fd : FuncData} (F : Fun K "_law_take" "_law_take" s_take f fd) (B : Bl mg) : FnOk P w K mg base CX0 1 f fd P_take (sp_take K) := by
  refine F.ok sc_take (fun vs H Q E h => ?_) (fun cdv A outer s H vs Q E hr h => ⟨_, tm_take B hr, rd_take h⟩)
  first | (obtain ⟨rfl, _⟩ := h; rfl) | (obtain ⟨_, rfl, _⟩ := h; rfl) | (obtain ⟨_, _, rfl, _⟩ := h; rfl) | (obtain ⟨_, _, _, rfl, _⟩ := h; rfl) | (obtain ⟨_, _, _, _, rfl, _⟩ := h; rfl) | (obtain ⟨_, _, _, _, _, rfl, _⟩ := h; rfl) | (obtain ⟨_, _, _, _, _, _, rfl, _⟩ := h; rfl) | (obtain ⟨_, _, _, _, _, _, _, rfl, _⟩ := h; rfl) | (obtain ⟨_, _, _, _, _, _, _, _, rfl, _⟩ := h; rfl) | (obtain ⟨_, _, _, _, _, _, _, _, _, rfl, _⟩ := h; rfl) | (obtain ⟨_, _, _, _, _, _, _, _, _, _, rfl, _⟩ := h; rfl) | (obtain ⟨_, _, _, _, _, _, _, _, _, _, _, rfl, _⟩ := h; rfl) | (obtain ⟨_, _, _, _, _, _, _, _, _, _, _, _, rfl, _⟩ := h; rfl)
set_option maxHeartbeats 2000000 in
theorem ok_whole {f : Addr} {fd : FuncData} (F : Fun K "_law_whole" "_law_whole" s_whole f fd) (B : Bl mg) : FnOk P w K mg base CX0 1 f fd P_whole (sp_whole K) := by
  refine F.ok sc_whole (fun vs H Q E h => ?_) (fun cdv A outer s H vs Q E hr h => ⟨_, tm_whole B hr, rd_whole h⟩)
  exact len_of (n := P_whole.length) (fun xs μ QD h => by first | (obtain ⟨rfl, _⟩ := h; rfl) | (obtain ⟨_, rfl, _⟩ := h; rfl) | (obtain ⟨_, _, rfl, _⟩ := h; rfl) | (obtain ⟨_, _, _, rfl, _⟩ := h; rfl) | (obtain ⟨_, _, _, _, rfl, _⟩ := h; rfl) | (obtain ⟨_, _, _, _, _, rfl, _⟩ := h; rfl) | (obtain ⟨_, _, _, _, _, _, rfl, _⟩ := h; rfl) | (obtain ⟨_, _, _, _, _, _, _, rfl, _⟩ := h; rfl) | (obtain ⟨_, _, _, _, _, _, _, _, rfl, _⟩ := h; rfl) | (obtain ⟨_, _, _, _, _, _, _, _, _, rfl, _⟩ := h; rfl) | (obtain ⟨_, _, _, _, _, _, _, _, _, _, rfl, _⟩ := h; rfl) | (obtain ⟨_, _, _, _, _, _, _, _, _, _, _, rfl, _⟩ := h; rfl) | (obtain ⟨_, _, _, _, _, _, _, _, _, _, _, _, rfl, _⟩ := h; rfl)) h
set_option maxHeartbeats 2000000 in
theorem ok_signs {f : Addr} {fd : FuncData} (F : Fun K "_law_signs" "_law_signs" s_signs f fd) (B : Bl mg) (C_take : Cal P w K mg base "_law_take" 1 P_take (sp_take K)) : FnOk P w K mg base CX0 2 f fd P_signs (sp_signs K) := by
  refine F.ok sc_signs (fun vs H Q E h => ?_) (fun cdv A outer s H vs Q E hr h => ⟨_, tm_signs B C_take hr, rd_signs h⟩)
  exact len_of (n := P_signs.length) (fun xs μ QD h => by first | (obtain ⟨rfl, _⟩ := h; rfl) | (obtain ⟨_, rfl, _⟩ := h; rfl) | (obtain ⟨_, _, rfl, _⟩ := h; rfl) | (obtain ⟨_, _, _, rfl, _⟩ := h; rfl) | (obtain ⟨_, _, _, _, rfl, _⟩ := h; rfl) | (obtain ⟨_, _, _, _, _, rfl, _⟩ := h; rfl) | (obtain ⟨_, _, _, _, _, _, rfl, _⟩ := h; rfl) | (obtain ⟨_, _, _, _, _, _, _, rfl, _⟩ := h; rfl) | (obtain ⟨_, _, _, _, _, _, _, _, rfl, _⟩ := h; rfl) | (obtain ⟨_, _, _, _, _, _, _, _, _, rfl, _⟩ := h; rfl) | (obtain ⟨_, _, _, _, _, _, _, _, _, _, rfl, _⟩ := h; rfl) | (obtain ⟨_, _, _, _, _, _, _, _, _, _, _, rfl, _⟩ := h; rfl) | (obtain ⟨_, _, _, _, _, _, _, _, _, _, _, _, rfl, _⟩ := h; rfl)) h
set_option maxHeartbeats 2000000 in
theorem ok_size {f : Addr} {fd : FuncData} (F : Fun K "_law_size" "_law_size" s_size f fd) (B : Bl mg) (C_take : Cal P w K mg base "_law_take" 1 P_take (sp_take K)) : FnOk P w K mg base CX0 2 f fd P_size (sp_size K) := by
  refine F.ok sc_size (fun vs H Q E h => ?_) (fun cdv A outer s H vs Q E hr h => ⟨_, tm_size B C_take hr, rd_size h⟩)
  exact len_of (n := P_size.length) (fun xs μ QD h => by first | (obtain ⟨rfl, _⟩ := h; rfl) | (obtain ⟨_, rfl, _⟩ := h; rfl) | (obtain ⟨_, _, rfl, _⟩ := h; rfl) | (obtain ⟨_, _, _, rfl, _⟩ := h; rfl) | (obtain ⟨_, _, _, _, rfl, _⟩ := h; rfl) | (obtain ⟨_, _, _, _, _, rfl, _⟩ := h; rfl) | (obtain ⟨_, _, _, _, _, _, rfl, _⟩ := h; rfl) | (obtain ⟨_, _, _, _, _, _, _, rfl, _⟩ := h; rfl) | (obtain ⟨_, _, _, _, _, _, _, _, rfl, _⟩ := h; rfl) | (obtain ⟨_, _, _, _, _, _, _, _, _, rfl, _⟩ := h; rfl) | (obtain ⟨_, _, _, _, _, _, _, _, _, _, rfl, _⟩ := h; rfl) | (obtain ⟨_, _, _, _, _, _, _, _, _, _, _, rfl, _⟩ := h; rfl) | (obtain ⟨_, _, _, _, _, _, _, _, _, _, _, _, rfl, _⟩ := h; rfl)) h
set_option maxHeartbeats 2000000 in
theorem ok_leaves {f : Addr} {fd : FuncData} (F : Fun K "_law_leaves" "_law_leaves" s_leaves f fd) (B : Bl mg) (C_take : Cal P w K mg base "_law_take" 1 P_take (sp_take K)) : FnOk P w K mg base CX0 2 f fd P_leaves (sp_leaves K) := by
  refine F.ok sc_leaves (fun vs H Q E h => ?_) (fun cdv A outer s H vs Q E hr h => ⟨_, tm_leaves B C_take hr, rd_leaves h⟩)
  exact len_of (n := P_leaves.length) (fun xs μ QD h => by first | (obtain ⟨rfl, _⟩ := h; rfl) | (obtain ⟨_, rfl, _⟩ := h; rfl) | (obtain ⟨_, _, rfl, _⟩ := h; rfl) | (obtain ⟨_, _, _, rfl, _⟩ := h; rfl) | (obtain ⟨_, _, _, _, rfl, _⟩ := h; rfl) | (obtain ⟨_, _, _, _, _, rfl, _⟩ := h; rfl) | (obtain ⟨_, _, _, _, _, _, rfl, _⟩ := h; rfl) | (obtain ⟨_, _, _, _, _, _, _, rfl, _⟩ := h; rfl) | (obtain ⟨_, _, _, _, _, _, _, _, rfl, _⟩ := h; rfl) | (obtain ⟨_, _, _, _, _, _, _, _, _, rfl, _⟩ := h; rfl) | (obtain ⟨_, _, _, _, _, _, _, _, _, _, rfl, _⟩ := h; rfl) | (obtain ⟨_, _, _, _, _, _, _, _, _, _, _, rfl, _⟩ := h; rfl) | (obtain ⟨_, _, _, _, _, _, _, _, _, _, _, _, rfl, _⟩ := h; rfl)) h
set_option maxHeartbeats 2000000 in
theorem ok_full {f : Addr} {fd : FuncData} (F : Fun K "_law_full" "_law_full" s_full f fd) (B : Bl mg) (C_take : Cal P w K mg base "_law_take" 1 P_take (sp_take K)) (C_signs : Cal P w K mg base "_law_signs" 2 P_signs (sp_signs K)) (C_size : Cal P w K mg base "_law_size" 2 P_size (sp_size K)) (C_leaves : Cal P w K mg base "_law_leaves" 2 P_leaves (sp_leaves K)) : FnOk P w K mg base CX0 3 f fd P_full (sp_full K) := by
  refine F.ok sc_full (fun vs H Q E h => ?_) (fun cdv A outer s H vs Q E hr h => ⟨_, tm_full B C_take C_signs C_size C_leaves hr, rd_full h⟩)
  exact len_of (n := P_full.length) (fun xs μ QD h => by first | (obtain ⟨rfl, _⟩ := h; rfl) | (obtain ⟨_, rfl, _⟩ := h; rfl) | (obtain ⟨_, _, rfl, _⟩ := h; rfl) | (obtain ⟨_, _, _, rfl, _⟩ := h; rfl) | (obtain ⟨_, _, _, _, rfl, _⟩ := h; rfl) | (obtain ⟨_, _, _, _, _, rfl, _⟩ := h; rfl) | (obtain ⟨_, _, _, _, _, _, rfl, _⟩ := h; rfl) | (obtain ⟨_, _, _, _, _, _, _, rfl, _⟩ := h; rfl) | (obtain ⟨_, _, _, _, _, _, _, _, rfl, _⟩ := h; rfl) | (obtain ⟨_, _, _, _, _, _, _, _, _, rfl, _⟩ := h; rfl) | (obtain ⟨_, _, _, _, _, _, _, _, _, _, rfl, _⟩ := h; rfl) | (obtain ⟨_, _, _, _, _, _, _, _, _, _, _, rfl, _⟩ := h; rfl) | (obtain ⟨_, _, _, _, _, _, _, _, _, _, _, _, rfl, _⟩ := h; rfl)) h
set_option maxHeartbeats 2000000 in
theorem ok_bits {f : Addr} {fd : FuncData} (F : Fun K "_law_bits" "_law_bits" s_bits f fd) (B : Bl mg) : FnOk P w K mg base CX0 1 f fd P_bits (sp_bits K) := by
  refine F.ok sc_bits (fun vs H Q E h => ?_) (fun cdv A outer s H vs Q E hr h => ⟨_, tm_bits B hr, rd_bits h⟩)
  exact len_of (n := P_bits.length) (fun xs μ QD h => by first | (obtain ⟨rfl, _⟩ := h; rfl) | (obtain ⟨_, rfl, _⟩ := h; rfl) | (obtain ⟨_, _, rfl, _⟩ := h; rfl) | (obtain ⟨_, _, _, rfl, _⟩ := h; rfl) | (obtain ⟨_, _, _, _, rfl, _⟩ := h; rfl) | (obtain ⟨_, _, _, _, _, rfl, _⟩ := h; rfl) | (obtain ⟨_, _, _, _, _, _, rfl, _⟩ := h; rfl) | (obtain ⟨_, _, _, _, _, _, _, rfl, _⟩ := h; rfl) | (obtain ⟨_, _, _, _, _, _, _, _, rfl, _⟩ := h; rfl) | (obtain ⟨_, _, _, _, _, _, _, _, _, rfl, _⟩ := h; rfl) | (obtain ⟨_, _, _, _, _, _, _, _, _, _, rfl, _⟩ := h; rfl) | (obtain ⟨_, _, _, _, _, _, _, _, _, _, _, rfl, _⟩ := h; rfl) | (obtain ⟨_, _, _, _, _, _, _, _, _, _, _, _, rfl, _⟩ := h; rfl)) h
set_option maxHeartbeats 2000000 in
theorem ok_codes {f : Addr} {fd : FuncData} (F : Fun K "_law_codes" "_law_codes" s_codes f fd) (B : Bl mg) (C_bits : Cal P w K mg base "_law_bits" 1 P_bits (sp_bits K)) (h_sorted : mg "sorted" = none) : FnOk P w K mg base CX0 2 f fd P_codes (sp_codes K) := by
  refine F.ok sc_codes (fun vs H Q E h => ?_) (fun cdv A outer s H vs Q E hr h => ⟨_, tm_codes B C_bits h_sorted hr, rd_codes h⟩)
  exact len_of (n := P_codes.length) (fun xs μ QD h => by first | (obtain ⟨rfl, _⟩ := h; rfl) | (obtain ⟨_, rfl, _⟩ := h; rfl) | (obtain ⟨_, _, rfl, _⟩ := h; rfl) | (obtain ⟨_, _, _, rfl, _⟩ := h; rfl) | (obtain ⟨_, _, _, _, rfl, _⟩ := h; rfl) | (obtain ⟨_, _, _, _, _, rfl, _⟩ := h; rfl) | (obtain ⟨_, _, _, _, _, _, rfl, _⟩ := h; rfl) | (obtain ⟨_, _, _, _, _, _, _, rfl, _⟩ := h; rfl) | (obtain ⟨_, _, _, _, _, _, _, _, rfl, _⟩ := h; rfl) | (obtain ⟨_, _, _, _, _, _, _, _, _, rfl, _⟩ := h; rfl) | (obtain ⟨_, _, _, _, _, _, _, _, _, _, rfl, _⟩ := h; rfl) | (obtain ⟨_, _, _, _, _, _, _, _, _, _, _, rfl, _⟩ := h; rfl) | (obtain ⟨_, _, _, _, _, _, _, _, _, _, _, _, rfl, _⟩ := h; rfl)) h
set_option maxHeartbeats 2000000 in
theorem ok_right {f : Addr} {fd : FuncData} (F : Fun K "_law_right" "_law_right" s_right f fd) (B : Bl mg) (C_p_codes : CalW P w K mg base "codes" 2 P_p_codes (sp_p_codes K) (BF_p_codes K)) (C_whole : Cal P w K mg base "_law_whole" 1 P_whole (sp_whole K)) (C_codes : Cal P w K mg base "_law_codes" 2 P_codes (sp_codes K)) (h_dict : mg "dict" = none) (h_sorted : mg "sorted" = none) : FnOk P w K mg base CX0 3 f fd P_right (sp_right K) := by
  refine F.ok sc_right (fun vs H Q E h => ?_) (fun cdv A outer s H vs Q E hr h => ⟨_, tm_right B C_p_codes C_whole C_codes h_dict h_sorted hr, rd_right h⟩)
  exact len_of (n := P_right.length) (fun xs μ QD h => by first | (obtain ⟨rfl, _⟩ := h; rfl) | (obtain ⟨_, rfl, _⟩ := h; rfl) | (obtain ⟨_, _, rfl, _⟩ := h; rfl) | (obtain ⟨_, _, _, rfl, _⟩ := h; rfl) | (obtain ⟨_, _, _, _, rfl, _⟩ := h; rfl) | (obtain ⟨_, _, _, _, _, rfl, _⟩ := h; rfl) | (obtain ⟨_, _, _, _, _, _, rfl, _⟩ := h; rfl) | (obtain ⟨_, _, _, _, _, _, _, rfl, _⟩ := h; rfl) | (obtain ⟨_, _, _, _, _, _, _, _, rfl, _⟩ := h; rfl) | (obtain ⟨_, _, _, _, _, _, _, _, _, rfl, _⟩ := h; rfl) | (obtain ⟨_, _, _, _, _, _, _, _, _, _, rfl, _⟩ := h; rfl) | (obtain ⟨_, _, _, _, _, _, _, _, _, _, _, rfl, _⟩ := h; rfl) | (obtain ⟨_, _, _, _, _, _, _, _, _, _, _, _, rfl, _⟩ := h; rfl)) h
set_option maxHeartbeats 2000000 in
theorem ok_law {f : Addr} {fd : FuncData} (F : Fun K "law" "law" s_law f fd) (B : Bl mg) (C_p_codes : CalW P w K mg base "codes" 2 P_p_codes (sp_p_codes K) (BF_p_codes K)) (C_p_coded : CalW P w K mg base "coded" 3 P_p_coded (sp_p_coded K) (BF_p_coded K)) (C_pen : Cal P w K mg base "_law_pen" 1 P_pen (sp_pen K)) (C_take : Cal P w K mg base "_law_take" 1 P_take (sp_take K)) (C_full : Cal P w K mg base "_law_full" 3 P_full (sp_full K)) (C_codes : Cal P w K mg base "_law_codes" 2 P_codes (sp_codes K)) (C_right : Cal P w K mg base "_law_right" 3 P_right (sp_right K)) : FnOk P w K mg base CX0 4 f fd P_law (sp_law K) := by
  refine F.ok sc_law (fun vs H Q E h => ?_) (fun cdv A outer s H vs Q E hr h => ⟨_, tm_law B C_p_codes C_p_coded C_pen C_take C_full C_codes C_right hr, rd_law h⟩)
  first | (obtain ⟨rfl, _⟩ := h; rfl) | (obtain ⟨_, rfl, _⟩ := h; rfl) | (obtain ⟨_, _, rfl, _⟩ := h; rfl) | (obtain ⟨_, _, _, rfl, _⟩ := h; rfl) | (obtain ⟨_, _, _, _, rfl, _⟩ := h; rfl) | (obtain ⟨_, _, _, _, _, rfl, _⟩ := h; rfl) | (obtain ⟨_, _, _, _, _, _, rfl, _⟩ := h; rfl) | (obtain ⟨_, _, _, _, _, _, _, rfl, _⟩ := h; rfl) | (obtain ⟨_, _, _, _, _, _, _, _, rfl, _⟩ := h; rfl) | (obtain ⟨_, _, _, _, _, _, _, _, _, rfl, _⟩ := h; rfl) | (obtain ⟨_, _, _, _, _, _, _, _, _, _, rfl, _⟩ := h; rfl) | (obtain ⟨_, _, _, _, _, _, _, _, _, _, _, rfl, _⟩ := h; rfl) | (obtain ⟨_, _, _, _, _, _, _, _, _, _, _, _, rfl, _⟩ := h; rfl)
end
set_option maxHeartbeats 4000000 in
theorem all_mk {l : PySem.W.OpenLaw} {w : World} {K : PySem.W.Frag} {h : Heap} {mg : Str → Option Value} {fa : Addr} (X : K.In h) (G : h.Ns mainGlobals mg) (hfa : mg "law" = some (.ref fa))
    {f1 : Addr} {od1 an1 : Option Addr} {sl1 : Array (Option Value)} {oc1 kV1 dc1 pm1 cd1 ct1 : Value}
    {f2 : Addr} {od2 an2 : Option Addr} {sl2 : Array (Option Value)} {oc2 kV2 dc2 pm2 cd2 ct2 : Value}
    {f3 : Addr} {od3 an3 : Option Addr} {sl3 : Array (Option Value)} {oc3 kV3 dc3 pm3 cd3 ct3 : Value}
    {f4 : Addr} {od4 an4 : Option Addr} {sl4 : Array (Option Value)} {oc4 kV4 dc4 pm4 cd4 ct4 : Value}
    {f5 : Addr} {od5 an5 : Option Addr} {sl5 : Array (Option Value)} {oc5 kV5 dc5 pm5 cd5 ct5 : Value}
    {f6 : Addr} {od6 an6 : Option Addr} {sl6 : Array (Option Value)} {oc6 kV6 dc6 pm6 cd6 ct6 : Value}
    {f7 : Addr} {od7 an7 : Option Addr} {sl7 : Array (Option Value)} {oc7 kV7 dc7 pm7 cd7 ct7 : Value}
    {f8 : Addr} {od8 an8 : Option Addr} {sl8 : Array (Option Value)} {oc8 kV8 dc8 pm8 cd8 ct8 : Value}
    {f9 : Addr} {od9 an9 : Option Addr} {sl9 : Array (Option Value)} {oc9 kV9 dc9 pm9 cd9 ct9 : Value}
    {f10 : Addr} {od10 an10 : Option Addr} {sl10 : Array (Option Value)} {oc10 kV10 dc10 pm10 cd10 ct10 : Value}
    {f11 : Addr} {od11 an11 : Option Addr} {sl11 : Array (Option Value)} {oc11 kV11 dc11 pm11 cd11 ct11 : Value}
    {f12 : Addr} {od12 an12 : Option Addr} {sl12 : Array (Option Value)} {oc12 kV12 dc12 pm12 cd12 ct12 : Value}
    {f13 : Addr} {od13 an13 : Option Addr} {sl13 : Array (Option Value)} {oc13 kV13 dc13 pm13 cd13 ct13 : Value}
    {f14 : Addr} {od14 an14 : Option Addr} {sl14 : Array (Option Value)} {oc14 kV14 dc14 pm14 cd14 ct14 : Value}
    
     
    
    (a1 : PySem.W.nsIn K mainGlobals "bits_of" = some (some (.ref f1))) (l1 : K.lookup f1 = some ⟨oc1, od1, .func (PySem.W.fnOf "bits_of" "bits_of" (defArgs s_p_bits_of) (defBody s_p_bits_of) (defScope s_p_bits_of) .none kV1 dc1 pm1 an1 cd1 ct1), sl1⟩) (c1 : PySem.W.codeIn K cd1 "bits_of" = true) (k1 : PySem.W.keepIn K (.ref f1) = true)
    (a2 : PySem.W.nsIn K mainGlobals "codes" = some (some (.ref f2))) (l2 : K.lookup f2 = some ⟨oc2, od2, .func (PySem.W.fnOf "codes" "codes" (defArgs s_p_codes) (defBody s_p_codes) (defScope s_p_codes) .none kV2 dc2 pm2 an2 cd2 ct2), sl2⟩) (c2 : PySem.W.codeIn K cd2 "codes" = true) (k2 : PySem.W.keepIn K (.ref f2) = true)
    (a3 : PySem.W.nsIn K mainGlobals "coded" = some (some (.ref f3))) (l3 : K.lookup f3 = some ⟨oc3, od3, .func (PySem.W.fnOf "coded" "coded" (defArgs s_p_coded) (defBody s_p_coded) (defScope s_p_coded) .none kV3 dc3 pm3 an3 cd3 ct3), sl3⟩) (c3 : PySem.W.codeIn K cd3 "coded" = true) (k3 : PySem.W.keepIn K (.ref f3) = true)
    (a4 : PySem.W.nsIn K mainGlobals "_law_pen" = some (some (.ref f4))) (l4 : K.lookup f4 = some ⟨oc4, od4, .func (PySem.W.fnOf "_law_pen" "_law_pen" (defArgs s_pen) (defBody s_pen) (defScope s_pen) .none kV4 dc4 pm4 an4 cd4 ct4), sl4⟩) (c4 : PySem.W.codeIn K cd4 "_law_pen" = true) (k4 : PySem.W.keepIn K (.ref f4) = true)
    (a5 : PySem.W.nsIn K mainGlobals "_law_take" = some (some (.ref f5))) (l5 : K.lookup f5 = some ⟨oc5, od5, .func (PySem.W.fnOf "_law_take" "_law_take" (defArgs s_take) (defBody s_take) (defScope s_take) .none kV5 dc5 pm5 an5 cd5 ct5), sl5⟩) (c5 : PySem.W.codeIn K cd5 "_law_take" = true) (k5 : PySem.W.keepIn K (.ref f5) = true)
    (a6 : PySem.W.nsIn K mainGlobals "_law_whole" = some (some (.ref f6))) (l6 : K.lookup f6 = some ⟨oc6, od6, .func (PySem.W.fnOf "_law_whole" "_law_whole" (defArgs s_whole) (defBody s_whole) (defScope s_whole) .none kV6 dc6 pm6 an6 cd6 ct6), sl6⟩) (c6 : PySem.W.codeIn K cd6 "_law_whole" = true) (k6 : PySem.W.keepIn K (.ref f6) = true)
    (a7 : PySem.W.nsIn K mainGlobals "_law_signs" = some (some (.ref f7))) (l7 : K.lookup f7 = some ⟨oc7, od7, .func (PySem.W.fnOf "_law_signs" "_law_signs" (defArgs s_signs) (defBody s_signs) (defScope s_signs) .none kV7 dc7 pm7 an7 cd7 ct7), sl7⟩) (c7 : PySem.W.codeIn K cd7 "_law_signs" = true) (k7 : PySem.W.keepIn K (.ref f7) = true)
    (a8 : PySem.W.nsIn K mainGlobals "_law_size" = some (some (.ref f8))) (l8 : K.lookup f8 = some ⟨oc8, od8, .func (PySem.W.fnOf "_law_size" "_law_size" (defArgs s_size) (defBody s_size) (defScope s_size) .none kV8 dc8 pm8 an8 cd8 ct8), sl8⟩) (c8 : PySem.W.codeIn K cd8 "_law_size" = true) (k8 : PySem.W.keepIn K (.ref f8) = true)
    (a9 : PySem.W.nsIn K mainGlobals "_law_leaves" = some (some (.ref f9))) (l9 : K.lookup f9 = some ⟨oc9, od9, .func (PySem.W.fnOf "_law_leaves" "_law_leaves" (defArgs s_leaves) (defBody s_leaves) (defScope s_leaves) .none kV9 dc9 pm9 an9 cd9 ct9), sl9⟩) (c9 : PySem.W.codeIn K cd9 "_law_leaves" = true) (k9 : PySem.W.keepIn K (.ref f9) = true)
    (a10 : PySem.W.nsIn K mainGlobals "_law_full" = some (some (.ref f10))) (l10 : K.lookup f10 = some ⟨oc10, od10, .func (PySem.W.fnOf "_law_full" "_law_full" (defArgs s_full) (defBody s_full) (defScope s_full) .none kV10 dc10 pm10 an10 cd10 ct10), sl10⟩) (c10 : PySem.W.codeIn K cd10 "_law_full" = true) (k10 : PySem.W.keepIn K (.ref f10) = true)
    (a11 : PySem.W.nsIn K mainGlobals "_law_bits" = some (some (.ref f11))) (l11 : K.lookup f11 = some ⟨oc11, od11, .func (PySem.W.fnOf "_law_bits" "_law_bits" (defArgs s_bits) (defBody s_bits) (defScope s_bits) .none kV11 dc11 pm11 an11 cd11 ct11), sl11⟩) (c11 : PySem.W.codeIn K cd11 "_law_bits" = true) (k11 : PySem.W.keepIn K (.ref f11) = true)
    (a12 : PySem.W.nsIn K mainGlobals "_law_codes" = some (some (.ref f12))) (l12 : K.lookup f12 = some ⟨oc12, od12, .func (PySem.W.fnOf "_law_codes" "_law_codes" (defArgs s_codes) (defBody s_codes) (defScope s_codes) .none kV12 dc12 pm12 an12 cd12 ct12), sl12⟩) (c12 : PySem.W.codeIn K cd12 "_law_codes" = true) (k12 : PySem.W.keepIn K (.ref f12) = true)
    (a13 : PySem.W.nsIn K mainGlobals "_law_right" = some (some (.ref f13))) (l13 : K.lookup f13 = some ⟨oc13, od13, .func (PySem.W.fnOf "_law_right" "_law_right" (defArgs s_right) (defBody s_right) (defScope s_right) .none kV13 dc13 pm13 an13 cd13 ct13), sl13⟩) (c13 : PySem.W.codeIn K cd13 "_law_right" = true) (k13 : PySem.W.keepIn K (.ref f13) = true)
    (a14 : PySem.W.nsIn K mainGlobals "law" = some (some (.ref f14))) (l14 : K.lookup f14 = some ⟨oc14, od14, .func (PySem.W.fnOf "law" "law" (defArgs s_law) (defBody s_law) (defScope s_law) .none kV14 dc14 pm14 an14 cd14 ct14), sl14⟩) (c14 : PySem.W.codeIn K cd14 "law" = true) (k14 : PySem.W.keepIn K (.ref f14) = true)
    (gc0 : PySem.W.nsIn K mainGlobals "dict" = some none)
    (gc1 : PySem.W.nsIn K mainGlobals "sorted" = some none)
    
    
    (z1 : PySem.W.nsIn K mainGlobals "len" = some none) (z2 : PySem.W.nsIn K mainGlobals "range" = some none) (z3 : PySem.W.nsIn K mainGlobals "abs" = some none) (z4 : PySem.W.nsIn K mainGlobals "int" = some none) (z5 : PySem.W.nsIn K mainGlobals "bool" = some none) (z6 : PySem.W.nsIn K mainGlobals "str" = some none) (z7 : PySem.W.nsIn K mainGlobals "list" = some none) (z8 : PySem.W.nsIn K mainGlobals "tuple" = some none) (z9 : PySem.W.nsIn K mainGlobals "isinstance" = some none) (z10 : PySem.W.nsIn K mainGlobals "repr" = some none) (z11 : PySem.W.nsIn K mainGlobals "min" = some none) (z12 : PySem.W.nsIn K mainGlobals "max" = some none) (z13 : PySem.W.nsIn K mainGlobals "sum" = some none) (z14 : PySem.W.nsIn K mainGlobals "all" = some none) (z15 : PySem.W.nsIn K mainGlobals "any" = some none) (z16 : PySem.W.nsIn K mainGlobals "enumerate" = some none) (z17 : PySem.W.nsIn K mainGlobals "zip" = some none) :
    ∃ fd : FuncData, (∀ (s : Shared) (v : Value), BindsTo s fd ⟨[v], []⟩ [("_law_script", v)]) ∧ ∀ base : Heap, K.In base → base.Ns mainGlobals mg → FnOk l.prog w K mg base CX0 4 fa fd ["_law_script"] (sp_law K) := by
  have e := hfa.symm.trans (PySem.W.mg_of X G a14)
  cases e
  have B : Bl mg := bl_mk X G z1 z2 z3 z4 z5 z6 z7 z8 z9 z10 z11 z12 z13 z14 z15 z16 z17
  have h_dict : mg "dict" = none := PySem.W.mg_none_of X G gc0
  have h_sorted : mg "sorted" = none := PySem.W.mg_none_of X G gc1
  have F1 := fun_mk (st := s_p_bits_of) l1 c1 k1
  have F2 := fun_mk (st := s_p_codes) l2 c2 k2
  have F3 := fun_mk (st := s_p_coded) l3 c3 k3
  have F4 := fun_mk (st := s_pen) l4 c4 k4
  have F5 := fun_mk (st := s_take) l5 c5 k5
  have F6 := fun_mk (st := s_whole) l6 c6 k6
  have F7 := fun_mk (st := s_signs) l7 c7 k7
  have F8 := fun_mk (st := s_size) l8 c8 k8
  have F9 := fun_mk (st := s_leaves) l9 c9 k9
  have F10 := fun_mk (st := s_full) l10 c10 k10
  have F11 := fun_mk (st := s_bits) l11 c11 k11
  have F12 := fun_mk (st := s_codes) l12 c12 k12
  have F13 := fun_mk (st := s_right) l13 c13 k13
  have F14 := fun_mk (st := s_law) l14 c14 k14
  refine ⟨PySem.W.fnOf "law" "law" (defArgs s_law) (defBody s_law) (defScope s_law) .none kV14 dc14 pm14 an14 cd14 ct14, fun s v => .of_eq rfl, fun base _ _ => ?_⟩
  have C_p_bits_of : Cal l.prog w K mg base "bits_of" 1 P_p_bits_of (sp_p_bits_of K) := ⟨f1, _, ok_p_bits_of F1 B, PySem.W.mg_of X G a1, k1, F1.binds (ps := P_p_bits_of) fun _ _ _ _ _ _ us hl => match us, hl with | [_, _], _ => rfl⟩
  have C_pen : Cal l.prog w K mg base "_law_pen" 1 P_pen (sp_pen K) := ⟨f4, _, ok_pen F4 B, PySem.W.mg_of X G a4, k4, F4.binds (ps := P_pen) fun _ _ _ _ _ _ us hl => match us, hl with | [_], _ => rfl⟩
  have C_take : Cal l.prog w K mg base "_law_take" 1 P_take (sp_take K) := ⟨f5, _, ok_take F5 B, PySem.W.mg_of X G a5, k5, F5.binds (ps := P_take) fun _ _ _ _ _ _ us hl => match us, hl with | [_, _], _ => rfl⟩
  have C_whole : Cal l.prog w K mg base "_law_whole" 1 P_whole (sp_whole K) := ⟨f6, _, ok_whole F6 B, PySem.W.mg_of X G a6, k6, F6.binds (ps := P_whole) fun _ _ _ _ _ _ us hl => match us, hl with | [_, _, _], _ => rfl⟩
  have C_bits : Cal l.prog w K mg base "_law_bits" 1 P_bits (sp_bits K) := ⟨f11, _, ok_bits F11 B, PySem.W.mg_of X G a11, k11, F11.binds (ps := P_bits) fun _ _ _ _ _ _ us hl => match us, hl with | [_, _], _ => rfl⟩
  have C_p_codes : CalW l.prog w K mg base "codes" 2 P_p_codes (sp_p_codes K) (BF_p_codes K) := ⟨f2, _, ok_p_codes F2 B C_p_bits_of h_sorted, PySem.W.mg_of X G a2, k2, ⟨kbinds_mk rfl rfl (by decide) fun us ws h1 h2 => match us, ws, h1, h2 with | [], [_], _, _ => rfl, F2.binds (ps := P_p_codes) fun _ _ _ _ _ _ us hl => match us, hl with | [_], _ => rfl⟩⟩
  have C_signs : Cal l.prog w K mg base "_law_signs" 2 P_signs (sp_signs K) := ⟨f7, _, ok_signs F7 B C_take, PySem.W.mg_of X G a7, k7, F7.binds (ps := P_signs) fun _ _ _ _ _ _ us hl => match us, hl with | [_, _, _], _ => rfl⟩
  have C_size : Cal l.prog w K mg base "_law_size" 2 P_size (sp_size K) := ⟨f8, _, ok_size F8 B C_take, PySem.W.mg_of X G a8, k8, F8.binds (ps := P_size) fun _ _ _ _ _ _ us hl => match us, hl with | [_, _], _ => rfl⟩
  have C_leaves : Cal l.prog w K mg base "_law_leaves" 2 P_leaves (sp_leaves K) := ⟨f9, _, ok_leaves F9 B C_take, PySem.W.mg_of X G a9, k9, F9.binds (ps := P_leaves) fun _ _ _ _ _ _ us hl => match us, hl with | [_, _], _ => rfl⟩
  have C_codes : Cal l.prog w K mg base "_law_codes" 2 P_codes (sp_codes K) := ⟨f12, _, ok_codes F12 B C_bits h_sorted, PySem.W.mg_of X G a12, k12, F12.binds (ps := P_codes) fun _ _ _ _ _ _ us hl => match us, hl with | [_], _ => rfl⟩
  have C_p_coded : CalW l.prog w K mg base "coded" 3 P_p_coded (sp_p_coded K) (BF_p_coded K) := ⟨f3, _, ok_p_coded F3 B C_p_codes, PySem.W.mg_of X G a3, k3, ⟨kbindsP_mk rfl rfl (by decide) fun us ws h1 h2 => match us, ws, h1, h2 with | [], [_, _], _, _ => rfl, F3.binds (ps := P_p_coded) fun _ _ _ _ _ _ us hl => match us, hl with | [_, _], _ => rfl⟩⟩
  have C_full : Cal l.prog w K mg base "_law_full" 3 P_full (sp_full K) := ⟨f10, _, ok_full F10 B C_take C_signs C_size C_leaves, PySem.W.mg_of X G a10, k10, F10.binds (ps := P_full) fun _ _ _ _ _ _ us hl => match us, hl with | [_], _ => rfl⟩
  have C_right : Cal l.prog w K mg base "_law_right" 3 P_right (sp_right K) := ⟨f13, _, ok_right F13 B C_p_codes C_whole C_codes h_dict h_sorted, PySem.W.mg_of X G a13, k13, F13.binds (ps := P_right) fun _ _ _ _ _ _ us hl => match us, hl with | [_], _ => rfl⟩
  exact ok_law F14 B C_p_codes C_p_coded C_pen C_take C_full C_codes C_right
theorem walk {l : PySem.W.OpenLaw} {q : Program} {loose : List Str} {XP : (Str → Option Value) → Heap → Prop} {YP : World → Heap → Prop} {d : DefRec} {K : Params → PySem.W.Frag} (hn : l.most = some 63) (hdf : d.params.defaults = [])
    (hY : ∀ (w : World) (h : Heap), YP w h → (K w.params).In h)
    (F : ∀ (w : World) (mg : Str → Option Value) (fa : Addr) (h : Heap), (K w.params).In h → h.Ns mainGlobals mg → mg d.name = some (.ref fa) →
      ∃ fd : FuncData, (∀ (s : Shared) (u : Value), BindsTo s fd ⟨[u], []⟩ [("_law_script", u)]) ∧ ∀ base : Heap, (K w.params).In base → base.Ns mainGlobals mg → FnOk l.prog w (K w.params) mg base CX0 4 fa fd ["_law_script"] (sp_law (K w.params))) :
    PySem.W.WalkO q loose XP YP l.row.toRowW d [] (fun f vs => PySem.call f vs) :=
  L2.walk_of (n := 63) (k := 4) (x := "_law_script") (CX := fun _ => CX0) (sp := fun w => sp_law (K w.params)) hn (by decide) hdf ⟨rfl, by decide, by decide, rfl⟩ hY F (fun _ _ a ns hl _ hS => ⟨a, ns, rfl, hS, hl, fun _ => rfl⟩) fun _ _ _ _ _ z => z
end K41
open PySem PySem.W PyProof.Rows
set_option maxRecDepth 100000 in
set_option maxHeartbeats 0 in
theorem PySem.Challenge.cw_tornpictures_k41_codes_told_holds : PySem.Challenge.rw_tornpictures_k41_codes_told.Holds := by
  w_on; o_law; k_head; (case hw => w_witness2)
  k_fill
  refine K41.walk (l := PySem.Challenge.rw_tornpictures_k41_codes_told) rfl rfl (fun w h Y => PySem.W.kIn_of Y) ?F
  case F =>
    intro w mg fa h KX G hmg
    refine' K41.all_mk KX G hmg ?a1 ?l1 ?c1 ?k1 ?a2 ?l2 ?c2 ?k2 ?a3 ?l3 ?c3 ?k3 ?a4 ?l4 ?c4 ?k4 ?a5 ?l5 ?c5 ?k5 ?a6 ?l6 ?c6 ?k6 ?a7 ?l7 ?c7 ?k7 ?a8 ?l8 ?c8 ?k8 ?a9 ?l9 ?c9 ?k9 ?a10 ?l10 ?c10 ?k10 ?a11 ?l11 ?c11 ?k11 ?a12 ?l12 ?c12 ?k12 ?a13 ?l13 ?c13 ?k13 ?a14 ?l14 ?c14 ?k14 ?gc0 ?gc1 ?z1 ?z2 ?z3 ?z4 ?z5 ?z6 ?z7 ?z8 ?z9 ?z10 ?z11 ?z12 ?z13 ?z14 ?z15 ?z16 ?z17
    (case a1 => k_is); (case l1 => k_is); (case c1 => k_is); (case k1 => k_is)
    (case a2 => k_is); (case l2 => k_is); (case c2 => k_is); (case k2 => k_is)
    (case a3 => k_is); (case l3 => k_is); (case c3 => k_is); (case k3 => k_is)
    (case a4 => k_is); (case l4 => k_is); (case c4 => k_is); (case k4 => k_is)
    (case a5 => k_is); (case l5 => k_is); (case c5 => k_is); (case k5 => k_is)
    (case a6 => k_is); (case l6 => k_is); (case c6 => k_is); (case k6 => k_is)
    (case a7 => k_is); (case l7 => k_is); (case c7 => k_is); (case k7 => k_is)
    (case a8 => k_is); (case l8 => k_is); (case c8 => k_is); (case k8 => k_is)
    (case a9 => k_is); (case l9 => k_is); (case c9 => k_is); (case k9 => k_is)
    (case a10 => k_is); (case l10 => k_is); (case c10 => k_is); (case k10 => k_is)
    (case a11 => k_is); (case l11 => k_is); (case c11 => k_is); (case k11 => k_is)
    (case a12 => k_is); (case l12 => k_is); (case c12 => k_is); (case k12 => k_is)
    (case a13 => k_is); (case l13 => k_is); (case c13 => k_is); (case k13 => k_is)
    (case a14 => k_is); (case l14 => k_is); (case c14 => k_is); (case k14 => k_is)
    (case gc0 => k_is)
    (case gc1 => k_is)
    (case z1 => k_is); (case z2 => k_is); (case z3 => k_is); (case z4 => k_is); (case z5 => k_is); (case z6 => k_is); (case z7 => k_is); (case z8 => k_is); (case z9 => k_is); (case z10 => k_is); (case z11 => k_is); (case z12 => k_is); (case z13 => k_is); (case z14 => k_is); (case z15 => k_is); (case z16 => k_is); (case z17 => k_is)
#print axioms PySem.Challenge.cw_tornpictures_k41_codes_told_holds
