"""What several tests use: values of all kinds, errors with their fields, examples of the document."""

import unittest

from whichfirst.errors import WhichError

# Values that are no number, no name and no limit, and in which True or a list stands where it must not.
ODD = (
    None, True, False, -1, -10 ** 59, '', 'Oil', 'ninechars', 'a b', 'oil\n', '~', '1',
    (), [], [1], (1,), (0, 0, 0, 0), ((),), [[]], ('days',), ['days', 7], ('days', True),
    ('days', '7'), ('weeks', 1), ('first', ()), ('first', [('days', 1)]), (None, None), (True, 1), (0, -1),
)

NO_NUMBER = (-1, True, False, None, '0', (), (0,), [0], -10 ** 59)
NO_NAME = tuple(value for value in ODD if value is not None) + ('oils', 'o', ['oil'], ('oil',), ['pump'], ['lift'], 0, b'oil')

# The site of the document's examples.
SETUP = """
>>> MACHINES = (('lift', ((8, 2),)), ('mill', ((2, 5), (6, 0))))
>>> PARTS = (('pump', ((0, 'lift'),)), ('saw', ((0, 'mill'), (4, 'lift'))))
>>> OIL = ('oil', 'pump', 'kept', ('first', (('hours', 40), ('days', 7))), (8, 0, 1))
>>> SITE = (MACHINES, PARTS, (('clean', 'saw', 'fresh', ('days', 6), (0, 0, 0)), OIL))
"""


class Case(unittest.TestCase):
    """A TestCase for which True is not 1 and a list is no tuple."""

    def same(self, got, want):
        """Tuples, lists and what is in them have their kinds in what repr writes."""
        self.assertEqual(repr(got), repr(want))

    def raises(self, kind, fields, call, /, *args, **named):
        """The call raises an error of this very class with these very fields."""
        with self.assertRaises(WhichError) as caught:
            call(*args, **named)
        self.assertIs(type(caught.exception), kind, (caught.exception, args, named))
        self.same(vars(caught.exception), fields)

    def examples(self, text):
        """Runs lines of the document behind its site; what stands below a line is its result."""
        space = {}
        checked = 0
        lines = [line.strip() for line in (SETUP + text).strip().split('\n')]
        for line, below in zip(lines, lines[1:] + ['']):
            if line.startswith('>>> '):
                if below and not below.startswith('>>> '):
                    self.assertEqual(told_by(line[4:], space), below, line)
                    checked += 1
                else:
                    exec(line[4:], space)
        self.assertGreater(checked, 0)


def told_by(code, space):
    """The result of an example as the document writes it."""
    try:
        return repr(eval(code, space))
    except WhichError as error:
        fields = ', '.join(f'{name}={value!r}' for name, value in vars(error).items())
        return f'raises {type(error).__name__}({fields})'
