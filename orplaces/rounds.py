"""Stands told apart by what they show behind more and more rows."""


class Rounds:
    """The numbers that stands have by what they show behind up to 0, 1, 2 .. rows; never changes."""

    def __init__(self, looks, steps, possible):
        self._steps = steps
        self._possible = possible
        self._rounds = rounds_of(looks, steps)

    def last_numbers(self):
        """A dict from the stands to their numbers by all that they ever show."""
        return dict(self._rounds[-1])

    def parting(self, one, other):
        """The first sequence behind which two stands show unlike things; None if they are alike."""
        if self._rounds[-1][one] == self._rounds[-1][other]:
            return None
        together = [numbers for numbers in self._rounds if numbers[one] == numbers[other]]
        sequence = []
        # Behind each row of a shortest sequence one row less is wanted, thus one round less as well.
        for numbers in together[::-1]:
            at = first_unlike(numbers, self._steps[one], self._steps[other])
            sequence.append(self._possible[at])
            one, other = self._steps[one][at], self._steps[other][at]
        return tuple(sequence)


def rounds_of(looks, steps):
    """The numbers of the stands behind up to 0, 1, 2 .. rows, until none changes."""
    numbers = numbered(looks)
    rounds = [numbers]
    finer = refined(numbers, steps)
    while finer != numbers:
        rounds.append(finer)
        numbers = finer
        finer = refined(numbers, steps)
    return rounds


def refined(numbers, steps):
    """The numbers of stands that are told apart by one row more."""
    return numbered({stand: (numbers[stand], *[numbers[led] for led in steps[stand]]) for stand in steps})


def numbered(keys):
    """A number for each stand by its key, the numbers in the order of the first stands."""
    found = {}
    for stand in keys:
        found.setdefault(keys[stand], len(found))
    return {stand: found[keys[stand]] for stand in keys}


def first_unlike(numbers, ones, others):
    """The first index at which two lists have stands of unlike numbers."""
    unlike = [numbers[one] != numbers[other] for one, other in zip(ones, others)]
    return unlike.index(True)
