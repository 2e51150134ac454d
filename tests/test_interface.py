"""The names, arguments and defaults of the interface: places, names, and stars."""

import importlib
import inspect

from tests.samples import Case

# For each module its functions, each with its arguments as the document has them.
FUNCTIONS = {
    "pictures": ("is_kind(thing)", "is_picture(thing)", "step_of(kind)"),
    "rowbytes": ("row_bytes(kind, row)", "row_of(kind, many, bytes_of)"),
    "filters": ("filtered(number, row, above, *, step=1)", "undone(number, row, above, *, step=1)"),
    "costs": (
        "cost(row)", "costs(row, above, *, step=1)", "chosen(row, above, *, step=1)",
        "is_chosen(row, above, thing, *, step=1)",
    ),
    "passes": (
        "passes(levels)", "pass_of(levels, x, y)", "size_of(width, height, levels, number)", "parted(picture, levels)",
        "together(kind, width, height, levels, rows)",
    ),
    "coarse": ("grid(levels, many)", "coarse(kind, width, height, levels, rows)"),
    "lines": ("lines(width, height, levels)", "line_rows(picture, levels)"),
    "sections": (
        "section_bytes(picture, *, levels=0, first=0, many=None)",
        "section_lines(kind, width, height, bytes_of, *, levels=0, first=0, many=None)",
    ),
    "stretches": ("said(bytes_of)", "unsaid(saying)"),
    "cheapest": (
        "price(saying, *, single=9, again=20)", "cheapest(bytes_of, *, single=9, again=20)",
        "table(bytes_of, *, single=9, again=20)", "lets_table(bytes_of, thing, *, single=9, again=20)",
    ),
    "counts": ("lengths(counts)", "joinings(counts)", "lets_joinings(counts, thing)"),
    "codes": (
        "is_full(thing)", "codes(lengths_of)", "coded(signs, lengths_of)", "decoded(text, lengths_of, *, many=1, at=0)",
    ),
    "bits": ("bits_of(number, many)", "number_of(text)", "bytes_from(text)", "bits_from(bytes_of)"),
    "blocks": ("plain(bytes_of)", "packed(bytes_of)", "block(bytes_of)", "unpacked(thing)"),
    "chunks": (
        "check(bytes_of)", "is_chunk_name(thing)", "is_small(name)", "chunk(name, body)", "chunk_at(bytes_of, at)",
    ),
    "files": (
        "written(picture, *, levels=0, each=8, notes=())", "read(thing)", "levels_of(thing)",
        "bound(picture, *, levels=0, each=8, notes=())",
    ),
    "accounts": ("account(thing)", "lets_account(thing, account_of)"),
    "oneform": ("one_form(file)",),
    "bytetexts": ("show_bytes(bytes_of)", "read_bytes(text)"),
    "picturetexts": ("show_picture(picture)", "read_picture(text)"),
}
# For each class how it is made, and its methods, each defined in the class itself.
CLASSES = {
    ("reader", "Reader"): (
        "__init__(self, *, strict=True)", "feed(self, piece, *, seen=None)", "end(self)", "state(self)", "fed(self)",
        "place(self)", "passed(self)", "lost(self)", "shape(self)", "picture(self)", "whole(self)", "coarse(self)",
        "__len__(self)",
    ),
    ("sheaf", "Sheaf"): (
        "__init__(self, file)", "put(self, at, name, body)", "take(self, at)", "call(self, at, name)", "part(self, at, many)",
        "unite(self, at)", "back(self)", "names(self)", "body(self, at)", "file(self)", "__len__(self)", "__eq__(self, other)",
    ),
    ("desk", "Desk"): ("__init__(self)", "say(self, line)"),
}


def written_out(name, function):
    """The function's name with its arguments, as the document has them."""
    parameters = list(inspect.signature(function).parameters.values())
    plain = [part.replace(annotation=inspect.Parameter.empty) for part in parameters]
    return name + str(inspect.Signature(plain))


class Interface(Case):
    def test_functions_and_their_arguments(self):
        for module, functions in FUNCTIONS.items():
            for wanted in functions:
                with self.subTest(module=module, function=wanted):
                    name = wanted.partition("(")[0]
                    function = getattr(importlib.import_module(f"tornpictures.{module}"), name)
                    self.assertEqual(written_out(name, function), wanted)

    def test_classes_and_their_methods(self):
        for (module, name), methods in CLASSES.items():
            made = getattr(importlib.import_module(f"tornpictures.{module}"), name)
            self.assertEqual(made.__name__, name)
            for wanted in methods:
                with self.subTest(name=name, method=wanted):
                    method = wanted.partition("(")[0]
                    self.assertEqual(written_out(method, vars(made)[method]), wanted)
