"""The sites of the tests: that of the document, and those with the edges that it names."""

MACHINES = (('lift', ((8, 2),)), ('mill', ((2, 5), (6, 0))))
PARTS = (('pump', ((0, 'lift'),)), ('saw', ((0, 'mill'), (4, 'lift'))))
OIL = ('oil', 'pump', 'kept', ('first', (('hours', 40), ('days', 7))), (8, 0, 1))
CLEAN = ('clean', 'saw', 'fresh', ('days', 6), (0, 0, 0))
SITE = (MACHINES, PARTS, (CLEAN, OIL))

# Parts on the shelf, stays that change on a day, three machines.
MOVES = (
    (('crane', ((1, 1), (0, 3), (5, 0))), ('lift', ((8, 2),)), ('mill', ((2, 5), (6, 0)))),
    (
        ('axle', ((0, None),)), ('belt', ((0, 'lift'), (3, None), (7, 'mill'))), ('chain', ((0, None), (5, 'crane'))),
        ('disc', ((0, 'crane'), (1, 'crane'), (2, 'lift'))),
    ),
    (
        ('check', 'axle', 'kept', ('hours', 1), (0, 0, 0)), ('grease', 'belt', 'kept', ('hours', 30), (4, 0, 0)),
        ('rinse', 'belt', 'fresh', ('cycles', 4), (0, 1, 0)), ('turn', 'axle', 'kept', ('days', 3), (0, 0, 1)),
    ),
)
EMPTY = ((), (), ())


def one(limit, slack=(0, 0, 0), way='kept', uses=((1, 0),)):
    """A site of one machine, one part and one task."""
    return ((('one', uses),), (('one', ((0, 'one'),)),), (('task', 'one', way, limit, slack),))
