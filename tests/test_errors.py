"""The classes of errors: their bases, their fields, how they are made."""

from tests.samples import Case
from tornpictures import errors

BARE = ("NoRow", "NoBytes", "NoBlock", "Stopped", "NotYet", "NoName", "NoPlace", "NoBack", "Taken", "Full", "NoLine")
WITH_AT = ("NoLines", "NoSaying", "NoCode", "Broken", "Torn")
UNDER_PICTURE_ERROR = BARE + WITH_AT + ("NoText",)
FIELDS = {**{name: "at" for name in WITH_AT + ("Beyond",)}, "NoText": "line", "Unknown": "name"}


def named(name):
    return getattr(errors, name)


class Bases(Case):
    def test_picture_error_is_a_value_error(self):
        self.assertEqual(errors.PictureError.__bases__, (ValueError,))

    def test_most_stand_right_under_picture_error(self):
        for name in UNDER_PICTURE_ERROR:
            with self.subTest(name):
                self.assertEqual(named(name).__bases__, (errors.PictureError,))

    def test_beyond_is_an_index_error_alone(self):
        self.assertEqual(errors.Beyond.__bases__, (IndexError,))
        self.assertFalse(issubclass(errors.Beyond, ValueError))

    def test_unknown_is_a_lookup_error_alone(self):
        self.assertEqual(errors.Unknown.__bases__, (LookupError,))
        self.assertFalse(issubclass(errors.Unknown, ValueError))
        self.assertFalse(issubclass(errors.Unknown, (IndexError, KeyError)))

    def test_none_is_under_another_one(self):
        names = UNDER_PICTURE_ERROR + ("Beyond", "Unknown")
        self.assertEqual(len({named(name) for name in names}), 19)
        for name in names:
            for other in names:
                if name != other:
                    with self.subTest(name=name, other=other):
                        self.assertFalse(issubclass(named(name), named(other)))

    def test_each_bears_its_own_name(self):
        for name in UNDER_PICTURE_ERROR + ("PictureError", "Beyond", "Unknown"):
            with self.subTest(name):
                self.assertEqual(named(name).__name__, name)


class Making(Case):
    def test_without_a_field_with_nothing_or_a_text(self):
        for name in BARE + ("PictureError",):
            with self.subTest(name):
                with self.assertRaises(named(name)):
                    raise named(name)()
                with self.assertRaises(named(name)) as caught:
                    raise named(name)("why it is so")
                self.assertIn("why it is so", str(caught.exception))

    def test_with_a_field_by_place_and_by_name(self):
        for name, field in FIELDS.items():
            value = "ab" if field == "name" else 17
            with self.subTest(name):
                with self.assertRaises(named(name)) as caught:
                    raise named(name)(value)
                self.same(getattr(caught.exception, field), value)
                self.same(getattr(named(name)(**{field: value}), field), value)

    def test_the_field_is_what_was_handed_in(self):
        for name, field in FIELDS.items():
            for value in (0, 1, 6000) if field != "name" else ("", "-", "abcdefgh", "a b"):
                with self.subTest(name=name, value=value):
                    self.same(getattr(named(name)(value), field), value)

    def test_two_have_each_its_own_field(self):
        for name, field in FIELDS.items():
            with self.subTest(name):
                one, other = named(name)(3), named(name)(4)
                self.assertEqual((getattr(one, field), getattr(other, field)), (3, 4))

    def test_the_field_must_be_handed_in(self):
        for name in FIELDS:
            with self.subTest(name), self.assertRaises(TypeError):
                named(name)()

    def test_a_text_of_the_error_can_be_asked(self):
        for name in FIELDS:
            with self.subTest(name):
                self.assertIsInstance(str(named(name)(5)), str)
