import unittest

from seaplace import errors

GRAPH_ERRORS = {
    "BadRow": ("row", "word"),
    "BadGraph": ("part", "number"),
    "BadGiven": ("number",),
    "BadPlacement": ("node",),
    "BadProfile": ("block",),
    "BadPaper": ("place",),
    "BadCode": ("row",),
    "Twice": (),
    "OutOfPlace": (),
    "TooGreat": (),
}
MISS_ERRORS = {"NoBlock": ("name",), "NoNode": ("node",), "Nothing": ()}
UNSOUND_ERRORS = {"Unsound": ("node",), "Pinned": ("node",)}
MAY_LACK = ("BadGraph", "BadGiven", "BadPlacement", "BadProfile", "BadPaper", "BadCode")
FAMILIES = (
    ("GraphError", ValueError, GRAPH_ERRORS),
    ("MissError", LookupError, MISS_ERRORS),
    ("UnsoundError", RuntimeError, UNSOUND_ERRORS),
)


class Errors(unittest.TestCase):
    def test_classes_stand_straight_under_theirs(self):
        for base, over, kinds in FAMILIES:
            above = getattr(errors, base)
            self.assertEqual(above.__bases__, (over,))
            for kind in kinds:
                self.assertEqual(getattr(errors, kind).__bases__, (above,), kind)

    def test_classes_are_defined_there(self):
        told = {base for base, _, _ in FAMILIES} | {kind for _, _, kinds in FAMILIES for kind in kinds}
        found = {name for name, thing in vars(errors).items() if isinstance(thing, type)}
        self.assertEqual(found, told)
        for name in told:
            self.assertEqual(getattr(errors, name).__module__, "seaplace.errors")

    def test_fields_by_place_and_by_name(self):
        for _, _, kinds in FAMILIES:
            for kind, fields in kinds.items():
                if not fields:
                    continue
                worths = [f"worth of {field}" for field in fields]
                made = getattr(errors, kind)(*worths)
                named = getattr(errors, kind)(**dict(zip(fields, worths)))
                for field, worth in zip(fields, worths):
                    self.assertEqual(getattr(made, field), worth)
                    self.assertEqual(getattr(named, field), worth)

    def test_fields_left_out(self):
        for _, _, kinds in FAMILIES:
            for kind, fields in kinds.items():
                if kind in MAY_LACK:
                    made = getattr(errors, kind)()
                    self.assertEqual([getattr(made, field) for field in fields], [None] * len(fields))
                elif fields:
                    with self.assertRaises(TypeError):
                        getattr(errors, kind)()
        made = errors.BadGraph("ends")
        self.assertEqual((made.part, made.number), ("ends", None))
        made = errors.BadGraph(number=3)
        self.assertEqual((made.part, made.number), (None, 3))

    def test_made_of_a_text(self):
        for kind in (errors.Twice, errors.OutOfPlace, errors.TooGreat, errors.Nothing):
            self.assertEqual(str(kind("so it is")), "so it is")

    def test_fields_of_anything(self):
        thing = [10 ** 5000]
        self.assertIs(errors.NoBlock(thing).name, thing)
        self.assertEqual(errors.NoNode(10 ** 5000).node, 10 ** 5000)


if __name__ == "__main__":
    unittest.main()
