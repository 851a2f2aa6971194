"""The refusals: which stands under which, and their fields (points [2], and the interface)."""

import inspect
import unittest

from likewebs import errors
from likewebs.errors import LikewebsError
from likewebs.webs import Web
from tests.common import Case, things

FIELDS = {
    "NoNaming": (), "NoWeb": ("at",), "NoArrow": ("a", "b"), "Full": (), "NoCorner": ("corner",),
    "NoNumber": ("number",), "NoStand": (), "NoLog": ("at",), "NoRow": (), "TooMany": ("bound",),
    "NotReached": ("level", "corner"), "NoWord": (), "NoTwist": ("level",), "NoMember": ("number",), "NoCover": (),
    "NoSuch": ("word",), "NoJoin": (), "TooManyNamings": ("many", "bound"), "NoName": ("name",), "Taken": ("name",),
    "NoDeed": (), "Refused": ("at",), "Busy": (), "NoThing": (), "NoText": ("at",), "NoRegister": (),
}


class Errors(Case):
    def test_the_refusals_are_just_these(self):
        found = {name for name, kind in vars(errors).items() if inspect.isclass(kind)}
        self.assertEqual(found, set(FIELDS) | {"LikewebsError"})

    def test_none_stands_under_another(self):
        self.assertEqual(LikewebsError.__bases__, (ValueError,))
        for name in FIELDS:
            with self.subTest(name=name):
                self.assertEqual(getattr(errors, name).__bases__, (LikewebsError,))

    def test_made_of_their_fields_in_order(self):
        for name, fields in FIELDS.items():
            with self.subTest(name=name):
                handed = [object() for _ in fields]
                made = getattr(errors, name)(*handed)
                self.assertEqual(list(vars(made)), list(fields))
                for field, thing in zip(fields, handed):
                    self.assertIs(getattr(made, field), thing)
                if fields:
                    self.assertEqual(list(inspect.signature(getattr(errors, name)).parameters), list(fields))

    def test_a_field_is_just_what_was_handed_in(self):
        for thing in things():
            for name, fields in FIELDS.items():
                made = getattr(errors, name)(*[thing for _ in fields])
                for field in fields:
                    self.assertIs(getattr(made, field), thing)

    def test_raised_and_caught(self):
        for name, fields in FIELDS.items():
            with self.subTest(name=name):
                with self.assertRaises(LikewebsError) as caught:
                    raise getattr(errors, name)(*[Web(()) for _ in fields])
                self.assertIs(type(caught.exception), getattr(errors, name))
                self.assertIs(type(str(caught.exception)), str)

    def test_any_refusal_may_be_made_of_nothing(self):
        self.assertEqual(vars(LikewebsError()), {})


if __name__ == "__main__":
    unittest.main()
