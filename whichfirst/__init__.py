"""Whichfirst: upkeep that falls due by hours, cycles or days, and the fewest visits."""
