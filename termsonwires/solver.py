"""Cells that hang on one another, worked out without calls inside of one another."""


class Solver:
    """Works out cells by keys.

    attempt(key) gives the cell, or None when it has asked for a cell that is not there yet; that one is then worked
    out first. Cells must not hang on themselves.
    """

    def __init__(self):
        self.cells = {}
        self.wanted = []

    def attempt(self, key):
        raise NotImplementedError(f"no cell for {key}")

    def ask(self, key):
        """The cell with this key; None, and it is noted as wanted, if it is not there yet."""
        cell = self.cells.get(key)
        if cell is None:
            self.wanted.append(key)
        return cell

    def solve(self, key):
        self.wanted = [key]
        while self.wanted:
            now = self.wanted[-1]
            cell = self.attempt(now)
            if cell is not None:
                self.cells[now] = cell
                self.wanted.pop()
        return self.cells[key]
