"""Papers of how few visits keep a site, or of which task is missed whatever is done."""

from whichfirst.goingby import first_bases
from whichfirst.kinds import is_number
from whichfirst.needs import need
from whichfirst.planning import greedy_way


def visit_paper(site, upto):
    """A paper of the fewest visits that keep a site up to a day, or of a task that is missed."""
    need(is_number(upto), "upto")
    row, late, names = greedy_way(site, first_bases(site), -1, upto)
    rows = tuple([(day, reasons[0]) for day, reasons in row])
    if late is None or late >= upto:
        return ("visits", rows)
    return ("missed", rows, names[0])
