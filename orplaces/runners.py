"""Runners: they step through a store, whoever writes it."""

from orplaces.errors import Blank


class Runner:
    """Runs a store, which is not copied, from an address."""

    def __init__(self, store, address=0):
        store.check_stand(address)
        self.store = store
        self._place = address
        self._raised = store.frame.rows.possible[0]
        self._many = 0

    @property
    def place(self):
        """The address of the runner."""
        return self._place

    @place.setter
    def place(self, value):
        self.store.check_stand(value)
        self._place = value

    @property
    def raised(self):
        """The row by which step steps."""
        return self._raised

    @raised.setter
    def raised(self, value):
        self.store.check_row(value)
        self._raised = value

    @property
    def steps(self):
        """The number of steps that were made and not undone."""
        return self._many

    def shown(self):
        """The signals at the place."""
        signals = self.store.shown(self._place)
        if signals is None:
            raise Blank(self._place)
        return signals

    def step(self):
        """Makes a step by the row that is raised, and returns the address that is reached."""
        return self.stepped_by([self._raised])[0]

    def __call__(self, row):
        return self.stepped_by([row])[0]

    def run(self, rows):
        """Makes a step by each of the rows, or none of them; returns the list of the addresses."""
        return self.stepped_by(rows)

    def stepped_by(self, rows):
        """The addresses behind each of the rows; nothing changes if one of the steps cannot be made."""
        places = [self._place]
        for row in rows:
            self.store.check_row(row)
            led = self.store.stepped(places[-1], row)
            if led is None:
                raise Blank(places[-1])
            places.append(led)
        if rows:
            self._raised = rows[-1]
        self._place = places[-1]
        self._many += len(rows)
        return places[1:]

    def trial(self):
        """What makes the runner behind a with block what it was at its beginning."""
        return RunnerTrial(self)

    def tried(self, work):
        """What the work returns of the runner, which is then as before."""
        with self.trial() as same:
            return work(same)

    def __repr__(self):
        return f"Runner(at {self._place}, {self._many} steps)"


class RunnerTrial:
    """The block of a with statement behind which a runner is where it was."""

    def __init__(self, runner):
        self._runner = runner
        self._place = None
        self._raised = None
        self._many = 0

    def __enter__(self):
        runner = self._runner
        self._place = runner._place
        self._raised = runner._raised
        self._many = runner._many
        return runner

    def __exit__(self, kind, value, trace):
        runner = self._runner
        runner._place = self._place
        runner._raised = self._raised
        runner._many = self._many


def assign_place(runner, value):
    """Puts a runner at an address."""
    runner.place = value


def assign_raised(runner, value):
    """Tells a runner the row by which it is to step."""
    runner.raised = value
