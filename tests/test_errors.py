import unittest

from gateslack import errors
from samples import deep

FAMILIES = {
    "TimingError": (
        ValueError,
        ("BadNetlist", "BadClock", "BadPath", "BadFilling", "BadCheck", "BadPaper", "BadEdit", "BadText", "BadLine"),
    ),
    "NotThere": (LookupError, ("NoSignal", "NoEnd", "NoCorner")),
    "Refused": (RuntimeError, ("Busy", "NothingDone", "TooMany")),
}
ONE_FIELD = {
    "BadNetlist": "place",
    "BadPaper": "place",
    "NoSignal": "name",
    "NoEnd": "name",
    "NoCorner": "number",
    "TooMany": "most",
}
NO_FIELD = ("BadClock", "BadPath", "BadFilling", "BadCheck", "BadEdit", "BadLine", "Busy", "NothingDone")


class FamilyTest(unittest.TestCase):
    def test_families_stand_straight_under_pythons_own(self):
        for family, (own, _) in FAMILIES.items():
            self.assertEqual(getattr(errors, family).__bases__, (own,))

    def test_refusals_stand_straight_under_their_family(self):
        for family, (_, names) in FAMILIES.items():
            for name in names:
                self.assertEqual(getattr(errors, name).__bases__, (getattr(errors, family),), name)

    def test_families_are_caught_as_such(self):
        with self.assertRaises(ValueError):
            raise errors.BadNetlist(())
        with self.assertRaises(LookupError):
            raise errors.NoSignal("a")
        with self.assertRaises(RuntimeError):
            raise errors.TooMany(14)


class FieldTest(unittest.TestCase):
    def test_one_field_by_place_and_by_name(self):
        for name, field in ONE_FIELD.items():
            refusal = getattr(errors, name)
            for thing in ((1, 2), "a", None, 7, deep()):
                self.assertIs(getattr(refusal(thing), field), thing)
                self.assertIs(getattr(refusal(**{field: thing}), field), thing)
                self.assertEqual(list(vars(refusal(thing))), [field])

    def test_one_field_must_be_told(self):
        for name in ONE_FIELD:
            with self.assertRaises(TypeError):
                getattr(errors, name)()

    def test_no_field(self):
        for name in NO_FIELD:
            self.assertEqual(vars(getattr(errors, name)()), {}, name)

    def test_bad_text(self):
        for refusal, line, word in (
            (errors.BadText(), 0, 0),
            (errors.BadText(3), 3, 0),
            (errors.BadText(3, 4), 3, 4),
            (errors.BadText(line=5, word=6), 5, 6),
            (errors.BadText(word=6), 0, 6),
        ):
            self.assertEqual(vars(refusal), {"line": line, "word": word})


if __name__ == "__main__":
    unittest.main()
