import unittest

from toldwhat import errors

FIELDS = {
    "BadQuestion": ("part",),
    "BadText": (),
    "BadWorld": (),
    "BadEdits": ("index",),
    "BadMessages": ("index",),
    "BadKeeper": ("index",),
    "BadNumber": (),
    "NoKeeper": (),
    "Answerable": (),
    "NotAlike": (),
    "BadStep": (),
    "TooMany": ("most",),
    "BadAsk": (),
    "BadLine": ("line", "word"),
    "BadString": (),
}


class TestErrors(unittest.TestCase):
    def test_base(self):
        self.assertEqual(errors.KeeperError.__bases__, (ValueError,))

    def test_direct_subclasses(self):
        for name in FIELDS:
            self.assertEqual(getattr(errors, name).__bases__, (errors.KeeperError,), name)

    def test_no_others(self):
        names = [kind.__name__ for kind in errors.KeeperError.__subclasses__()]
        self.assertEqual(sorted(names), sorted(FIELDS))

    def test_defined_here(self):
        for name in [*FIELDS, "KeeperError"]:
            self.assertEqual(getattr(errors, name).__module__, "toldwhat.errors")

    def test_fields(self):
        for name, fields in FIELDS.items():
            values = list(range(7, 7 + len(fields)))
            error = getattr(errors, name)(*values)
            self.assertEqual(vars(error), dict(zip(fields, values)), name)

    def test_fields_by_name(self):
        for name, fields in FIELDS.items():
            values = {field: at for at, field in enumerate(fields)}
            error = getattr(errors, name)(**values)
            self.assertEqual(vars(error), values, name)

    def test_fields_are_asked_for(self):
        for name, fields in FIELDS.items():
            if fields:
                with self.assertRaises(TypeError, msg=name):
                    getattr(errors, name)()

    def test_kinds_of_fields(self):
        self.assertEqual(errors.BadQuestion("steps").part, "steps")
        self.assertIsNone(errors.BadEdits(None).index)
        self.assertIsNone(errors.BadMessages(None).index)
        self.assertIsNone(errors.BadKeeper(None).index)
        self.assertEqual(errors.BadEdits(0).index, 0)
        self.assertEqual((errors.BadLine(3, 4).line, errors.BadLine(3, 4).word), (3, 4))
        self.assertEqual(errors.TooMany(2000).most, 2000)

    def test_caught_as_value_error(self):
        for name, fields in FIELDS.items():
            with self.assertRaises(ValueError):
                raise getattr(errors, name)(*range(len(fields)))


if __name__ == "__main__":
    unittest.main()
