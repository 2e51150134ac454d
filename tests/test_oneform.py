"""The one form of a file: point 29, and what point 3 says of it."""

import itertools
import random

from tests.filemaking import GREY, NAMED, any_parts, broken_files, laid, other_writers
from tests.samples import Case, any_picture, exactly, few_kinds, whatever
from tornpictures.errors import Broken
from tornpictures.files import levels_of, read, written
from tornpictures.oneform import one_form
from tornpictures.sheaf import Sheaf


class OneForm(Case):
    def test_by_hand(self):
        file = written((("grey", 8), 1, 1, ((7,),)), each=1, notes=(("note", [1]),))
        self.same(one_form(file), written((("grey", 8), 1, 1, ((7,),))))
        self.same(one_form(file=file), one_form(file))

    def test_sections_of_eight_lines_without_notes(self):
        for kind, levels in itertools.product(few_kinds(), range(4)):
            picture = any_picture(kind, 9, 19)
            right = written(picture, levels=levels, each=8)
            for each in (1, 7, 8, 9, 40):
                self.same(one_form(written(picture, levels=levels, each=each, notes=(("note", [each]),))), right)

    def test_whoever_wrote_it(self):
        chance = random.Random(29)
        for picture, levels, parts in other_writers("forms", 30):
            right = written(picture, levels=levels)
            self.same(one_form(laid(parts)), right)
            self.same(one_form(laid(any_parts(picture, levels, chance))), right)
            self.same(one_form(right), right)
            self.same(read(right), picture)
            self.same(levels_of(right), levels)

    def test_other_levels_or_another_picture(self):
        pictures = [GREY, NAMED, any_picture(("grey", 4), 5, 6, 1), any_picture(("grey", 4), 6, 5)]
        forms = [one_form(written(picture, levels=levels)) for picture in pictures for levels in range(4)]
        for one, other in itertools.combinations(forms, 2):
            self.assertNotEqual(one, other)

    def test_edits_keep_the_form(self):
        sheaf = Sheaf(written(GREY, each=3))
        right = one_form(sheaf.file())
        for deed in (lambda: sheaf.put(1, "note", [1]), lambda: sheaf.part(2, 1), lambda: sheaf.part(3, 1),
                     lambda: sheaf.unite(4), lambda: sheaf.call(1, "text"), lambda: sheaf.take(1)):
            deed()
            self.same(one_form(sheaf.file()), right)

    def test_what_is_no_file(self):
        for why, bytes_of, at, told in broken_files():
            self.refused(bytes_of, at)
        for thing in whatever() + [tuple(written(GREY)), written(GREY) + [True]]:
            self.refused(thing, 0)

    def refused(self, thing, at):
        before = exactly(thing)
        with self.assertRaises(Broken) as caught:
            one_form(thing)
        self.same(caught.exception.at, at)
        self.assertEqual(exactly(thing), before)

    def test_handing(self):
        self.check_own(one_form, written(GREY, each=2))
        self.check_own(one_form, one_form(written(NAMED)))
