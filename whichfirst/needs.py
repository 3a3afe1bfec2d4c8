"""What functions demand of their arguments."""

from whichfirst.errors import NotUsable


def need(fine, word):
    """Raises NotUsable for the argument of this name, if it is not fine."""
    if not fine:
        raise NotUsable(word, -1)
