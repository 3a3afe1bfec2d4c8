"""Papers of sure visits."""

from whichfirst.boundchecker import is_bounds
from whichfirst.kinds import is_number
from whichfirst.needs import need
from whichfirst.surevisits import sure_plan
from whichfirst.surewindows import in_run


def sure_paper(site, bounds, upto):
    """A paper of the fewest sure visits up to a day, or of why there are none."""
    need(is_bounds(site, bounds), "bounds")
    need(is_number(upto), "upto")
    return sure_plan(in_run(site, bounds[0]), in_run(site, bounds[1]), upto)
