"""The row of so many things: which of its places a prime leaves free."""

from choicefigures.errors import NoPlace
from choicefigures.figures import figures


def free(many, prime):
    count = 1
    for figure in figures(many, prime):
        count = count * (figure + 1)
    return count


def next_free(many, place, prime):
    bounds = figures(many, prime)
    if place > many:
        return None
    found = max(place, 0)
    unit = 1
    for bound in bounds:
        above = unit * prime
        # Until the next figure above changes, this one only grows: no place up to there is free.
        if found % above // unit > bound:
            found = found - found % above + above
        unit = above
    return found


def free_ahead(many, place, prime):
    bounds = figures(many, prime)
    if place > many:
        return free(many, prime)
    left = max(place, 0)
    # Both speak of the figures walked so far alone: the free places less than the place, and all of them.
    ahead = 0
    whole = 1
    for bound in bounds:
        figure = left % prime
        left = left // prime
        if figure > bound:
            ahead = whole * (bound + 1)
        else:
            ahead = whole * figure + ahead
        whole = whole * (bound + 1)
    return ahead


def free_at(many, number, prime):
    bounds = figures(many, prime)
    if number < 0 or number >= free(many, prime):
        raise NoPlace(f"the row of {many} has no free place with the number {number}")
    place = 0
    unit = 1
    left = number
    # Each figure runs from nought to its bound, so the number is written in a base that changes with it.
    for bound in bounds:
        place = place + left % (bound + 1) * unit
        left = left // (bound + 1)
        unit = unit * prime
    return place


def is_bare(many, prime):
    return free(many, prime) == many + 1


def is_full(many, prime):
    # The first and the last place are free in each row; that of nought and that of one have no other.
    return free(many, prime) == 2 and many >= 2
