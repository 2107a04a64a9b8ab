"""What all modules need to look at values that are handed in."""

from leftwithout.errors import Unfit


def is_number(value):
    """Whether value is a number: True and False are none."""
    return isinstance(value, int) and not isinstance(value, bool)


def is_numbers(value):
    """Whether value is a tuple of numbers, maybe ()."""
    return isinstance(value, tuple) and all([is_number(own) for own in value])


def as_tuples(value, deep):
    """The value with tuples in the place of lists, as many levels deep as told.

    The levels are told because anything may be handed in: a list nested
    without end, or in itself, must be refused, not followed.
    """
    if deep == 0 or not isinstance(value, (list, tuple)):
        return value
    return tuple([as_tuples(own, deep - 1) for own in value])


def need_number(value):
    """Raise Unfit() if value is no number."""
    if not is_number(value):
        raise Unfit()


def is_set_below(value, many):
    """Whether value is a set of numbers from 0 on, all below many."""
    if not is_numbers(value) or list(value) != sorted(set(value)):
        return False
    return all([0 <= own < many for own in value])


def is_each_below(value, many):
    """Whether value is a tuple of all numbers from 0 on below many, each once."""
    return is_numbers(value) and sorted(value) == list(range(many))
