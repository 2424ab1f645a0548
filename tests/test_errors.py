"""[9]: the errors."""

import unittest

from askrights import errors

FAMILIES = {
    "PaperError": {"InvalidPaper": ("word", "at")},
    "ArchiveError": {"InvalidStep": ("step", "reason"), "NotAnswerable": ("row",), "UnknownName": ("name",),
                     "NothingToUndo": ("steps",)},
    "TextError": {"InvalidText": ("line", "field"), "InvalidCommand": ("text",)},
}

OBJECTS = [0, True, None, "", "shape", [], [1, [2]], (1, (2, [3])), {"a": 1}, object(), 10 ** 70, b"x", ValueError]


class Errors(unittest.TestCase):
    def each(self):
        for family, members in FAMILIES.items():
            for name, attributes in members.items():
                yield getattr(errors, family), getattr(errors, name), attributes

    def test_families(self):
        self.assertEqual(errors.AskError.__bases__, (ValueError,))
        for family in FAMILIES:
            self.assertEqual(getattr(errors, family).__bases__, (errors.AskError,))
        for family, error, attributes in self.each():
            self.assertEqual(error.__bases__, (family,))

    def test_attributes_are_the_very_objects(self):
        for family, error, attributes in self.each():
            for at in range(len(OBJECTS)):
                given = [OBJECTS[(at + k) % len(OBJECTS)] for k in range(len(attributes))]
                for made in (error(*given), error(**dict(zip(attributes, given)))):
                    for name, thing in zip(attributes, given):
                        self.assertIs(getattr(made, name), thing)

    def test_exactly_these_attributes(self):
        for family, error, attributes in self.each():
            made = error(*attributes)
            self.assertEqual(tuple(vars(made)), attributes)
            with self.assertRaises(TypeError):
                error(*attributes, "more")
            with self.assertRaises(TypeError):
                error(*attributes[1:])

    def test_objects_are_not_inspected(self):
        class Untouchable:
            def refuse(self, *rest):
                raise AssertionError("inspected")
            __eq__ = __bool__ = __len__ = __iter__ = __str__ = __repr__ = __hash__ = refuse

        for family, error, attributes in self.each():
            thing = Untouchable()
            made = error(*[thing] * len(attributes))
            self.assertTrue(getattr(made, attributes[0]) is thing)

    def test_they_are_caught_by_family(self):
        for family, error, attributes in self.each():
            for caught in (family, errors.AskError, ValueError):
                with self.assertRaises(caught):
                    raise error(*attributes)


if __name__ == "__main__":
    unittest.main()
