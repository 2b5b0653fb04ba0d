"""What stores and programs have in common: stands that rows lead from one to another."""


class Machine:
    """The base class of Store and Program, which tell what their stands are; not made itself."""

    def shown(self, stand):
        """The Signals that the stand shows, None at a blank address."""
        raise NotImplementedError("each machine tells what it shows")

    def stepped(self, stand, row):
        """The stand to which the row leads, None at a blank address."""
        raise NotImplementedError("each machine tells how it steps")

    def has_stand(self, stand):
        """Whether any value is one of the machine's stands."""
        raise NotImplementedError("each machine tells what its stands are")

    def check_stand(self, stand):
        """Raises the machine's error if any value is none of its stands."""
        raise NotImplementedError("each machine tells what its stands are")

    def reached(self, rows, *stands):
        """The stands that are led to, each with the first start and sequence that lead there."""
        for stand in stands:
            self.check_stand(stand)
        ways = {stand: (stand, ()) for stand in stands}
        queue = list(ways)
        done = 0
        # What is led to first in this order is led to by the first start and sequence as well.
        while done < len(queue):
            stand = queue[done]
            done += 1
            start, sequence = ways[stand]
            yield stand, start, sequence
            for row in rows.possible:
                led = self.stepped(stand, row)
                if led is not None and led not in ways:
                    ways[led] = (start, (*sequence, row))
                    queue.append(led)
