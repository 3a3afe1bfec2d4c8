"""The errors: their families, their fields, and that these are kept as they are."""

from helpers import ODD, Case
from whichfirst import errors

FAMILIES = {
    'PaperError': {'InvalidPaper': ('word', 'at')},
    'SiteError': {'NotUsable': ('word', 'at'), 'NeverKept': ('task', 'day')},
    'BookError': {'InvalidEvent': ('event', 'reason'), 'NothingToUndo': ('steps',)},
    'TextError': {'InvalidText': ('line', 'field'), 'InvalidRow': ('row',)},
}
ERRORS = [(family, name, fields) for family in FAMILIES for name, fields in FAMILIES[family].items()]


class TestErrors(Case):
    def test_families(self):
        self.assertEqual(errors.WhichError.__bases__, (ValueError,))
        for family in FAMILIES:
            self.assertEqual(getattr(errors, family).__bases__, (errors.WhichError,))

    def test_each_derives_directly_from_its_family(self):
        for family, name, _ in ERRORS:
            self.assertEqual(getattr(errors, name).__bases__, (getattr(errors, family),))

    def test_all_are_defined_here_and_no_others(self):
        defined = {name for name, thing in vars(errors).items() if isinstance(thing, type)}
        self.assertEqual(defined, {'WhichError', *FAMILIES} | {name for _, name, _ in ERRORS})
        for name in defined:
            self.assertEqual(getattr(errors, name).__module__, 'whichfirst.errors')

    def test_fields_by_position_and_by_name(self):
        for _, name, fields in ERRORS:
            kind = getattr(errors, name)
            values = tuple(range(5, 5 + len(fields)))
            self.same(vars(kind(*values)), dict(zip(fields, values)))
            self.same(vars(kind(**dict(zip(fields, values)))), dict(zip(fields, values)))

    def test_exactly_the_fields(self):
        for _, name, fields in ERRORS:
            kind = getattr(errors, name)
            self.assertRaises(TypeError, kind, *range(len(fields) - 1))
            self.assertRaises(TypeError, kind, *range(len(fields) + 1))
            self.assertRaises(TypeError, kind, **dict.fromkeys(fields + ('more',)))

    def test_fields_are_kept_as_they_are(self):
        values = ODD + (object(), [[1], (2,)], 10 ** 5000, errors.InvalidRow('x'))
        for _, name, fields in ERRORS:
            for value in values:
                error = getattr(errors, name)(*[value] * len(fields))
                for field in fields:
                    self.assertIs(getattr(error, field), value)

    def test_they_can_be_raised_and_caught_by_each_class_above(self):
        for family, name, fields in ERRORS:
            for kind in (getattr(errors, name), getattr(errors, family), errors.WhichError, ValueError):
                with self.assertRaises(kind):
                    raise getattr(errors, name)(*fields)
