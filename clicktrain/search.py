"""What moves lead to from a start, taken up in the order of the fewest moves."""


class Search:
    """All that was met so far, each with the fewest moves to it and the move that led there."""

    def __init__(self, start):
        self.met = [start]
        self.numbers = {start: 0}
        self.came = {start: None}

    def meet(self, here, move, after):
        """Take up what a move leads to, unless it was met before."""
        if after not in self.numbers:
            self.met.append(after)
            self.numbers[after] = self.numbers[here] + 1
            self.came[after] = (here, move)

    def path(self, goal):
        """The moves that led from the start to what was met."""
        moves = []
        step = self.came[goal]
        while step is not None:
            here, move = step
            moves.append(move)
            step = self.came[here]
        moves.reverse()
        return moves
