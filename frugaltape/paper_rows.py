"""The rows of a paper and their cases: all that moves and calls make of them."""

from frugaltape.linear import divided

# The two groups of rows, which are numbered each for itself.
MATRICES = 0
VECTORS = 1


def numbers_by_address(rows, code):
    """Return the list, for each address, of the numbers of its rows."""
    found = [[] for _ in code]
    for number, (address, _, _) in enumerate(rows):
        found[address].append(number)
    return found


class PaperRows:
    """Rows of matrices and of open vectors, each with its address and its origin, over the moves of a program."""

    def __init__(self, moves, matrices, vectors):
        self.moves = moves
        self.groups = (matrices, vectors)
        code = moves.instructions
        self.numbers = (numbers_by_address(matrices, code), numbers_by_address(vectors, code))

    def cases(self):
        """Yield the cases of all rows, as triples of the group, the target and the result."""
        for address, matrix, _ in self.groups[MATRICES]:
            for target, result in self._results(address, matrix, self.moves.size):
                yield MATRICES, target, result
        for address, vector, _ in self.groups[VECTORS]:
            for target, result in self._results(address, vector, 1):
                yield VECTORS, target, result

    def _results(self, address, row, columns):
        word, *rest = self.moves.instructions[address]
        if word == "call":
            return self._call_results(address, rest[0], row, columns)
        return [
            (self.moves.target(address, choice), divided(self.moves.result(address, row, columns, choice)))
            for choice in self.moves.choices(address)
        ]

    def _call_results(self, address, name, row, columns):
        results = []
        if columns == 1:
            results.append((self.moves.entries[name], divided(self.moves.state_part(row))))
        for number in self.numbers[MATRICES][self.moves.returns[name]]:
            _, matrix, _ = self.groups[MATRICES][number]
            results.append((address + 1, self.moves.called(matrix, row, columns)))
        return results

    def vectors_at(self, address):
        """Return the list of the open vectors of the rows at an address."""
        return [self.groups[VECTORS][number][1] for number in self.numbers[VECTORS][address]]
