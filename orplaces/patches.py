"""What patches of a store change, and which steps lead to an address."""

from orplaces.rounds import Rounds


def changed(store, patch, *entries):
    """For each reached address from which a patch changes what is shown, the address and the parting."""
    patched = store | patch
    rounds = joint_rounds(store, patched)
    for address in reached_addresses(store, entries):
        sequence = rounds.parting(address, store.frame.size + address)
        if sequence is not None:
            yield address, sequence


def joint_rounds(store, patched):
    """The rounds of the addresses of a store, and behind them those of the patched store."""
    size = store.frame.size
    looks = {}
    steps = {}
    for first, held in ((0, store), (size, patched)):
        for address in range(size):
            signals = held.shown(address)
            looks[first + address] = None if signals is None else signals.told
            steps[first + address] = [first + led for led in led_addresses(held, address)]
    return Rounds(looks, steps, store.frame.rows.possible)


def led_addresses(store, address):
    """The addresses to which an address leads, row by row; a blank one stays blank, as if it led to itself."""
    rows = store.frame.rows.possible
    if address not in store:
        return [address for row in rows]
    return [store.stepped(address, row) for row in rows]


def reached_addresses(store, entries):
    """The ascending list of the addresses that sequences lead to from the entries."""
    rows = store.frame.rows
    return sorted([address for address, start, sequence in store.reached(rows, *entries)])


def arrivals(store, *entries):
    """For each reached address all steps that lead there, as pairs of an address and a row."""
    places = reached_addresses(store, entries)
    found = {address: [] for address in places}
    for address in places:
        for row in store.frame.rows.possible:
            led = store.stepped(address, row)
            if led is not None:
                found[led].append((address, row))
    return {address: tuple(found[address]) for address in places}


def is_alone(store, address, row, *entries):
    """Whether a step is the only way to the address that it leads to."""
    led = store.stepped(address, row)
    return led not in entries and len(arrivals(store, *entries)[led]) == 1
