"""What the least stores need: the costs of locks, and the addresses that all of them write."""

from orplaces.errors import NotCarried
from orplaces.search import USUAL_LIMIT, least


def lock_costs(store, program, entries, *, limit=USUAL_LIMIT):
    """For each address that is written, the number of writes if it is locked, or None."""
    made = least(store, program, entries, limit=limit)
    if not made:
        raise NotCarried()
    # The outcome has copies of its own, so what is done to the arguments between two items does not count.
    given = made.given
    starts = made.starts
    for address in made.written:
        locked = least(given.with_locks(address), program, starts, limit=limit)
        yield address, len(locked) if locked else None


def must_write(store, program, entries, *, limit=USUAL_LIMIT):
    """The ascending tuple of the addresses that every made store with the fewest writes writes."""
    costs = list(lock_costs(store, program, entries, limit=limit))
    # There is an item for each write of the least store.
    return tuple([address for address, number in costs if number != len(costs)])
