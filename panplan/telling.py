"""Telling: a plan of the least length for the cases that are still open, or why there is none."""

from panplan.opening import still_open
from panplan.pans import came, leading
from panplan.search import Search


def told(many, cases, done):
    """Tell two open cases that are alike on the scales, or that none is open, or else a plan and a hold."""
    some = still_open(many, cases, done)
    if len(some) == 0:
        return ("none",)
    pair = find_alike(many, some)
    if pair is not None:
        return ("alike", pair[0], pair[1])
    search = Search(many, some)
    places = tuple(range(len(some)))
    length = search.least(places)
    hold = search.hold(places, length - 1) if length > 0 else None
    return ("plan", search.plan(places), hold)


def least(many, cases, done):
    """Tell the least length of a plan for the cases that are still open; None where there is no plan or no case."""
    some = still_open(many, cases, done)
    if len(some) == 0 or find_alike(many, some) is not None:
        return None
    return Search(many, some).least(tuple(range(len(some))))


def find_alike(many, cases):
    """Find two of the cases that are alike on the scales; None where no two are."""
    weighings = leading(many)
    seen = {}
    for case in cases:
        # What a weighing comes to tells what the exchanged one does, so those that lead are enough.
        outcomes = tuple([came(weighing, case) for weighing in weighings])
        if outcomes in seen:
            return (seen[outcomes], case)
        seen[outcomes] = case
    return None
