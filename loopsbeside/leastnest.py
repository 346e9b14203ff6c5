"""A NEST alike of the least depth."""

from loopsbeside.flat import nest_of
from loopsbeside.shallow import shallow


def least_nest(quest, late=False):
    """A pair (NEST, ASKED) alike of the least depth, each inner loop late or not as told. Raises TooMuch()."""
    return nest_of(shallow(quest), late)
