"""A second telling of the document, slow and by itself, to hold the program against.

It draws nothing from the package, and counts by looking at every two seatings.
"""

from itertools import combinations


def outside(numbers, ranges):
    return any(not low <= number <= high for number, (low, high) in zip(numbers, ranges))


class Model:
    def __init__(self):
        self.rows = []

    def answer(self, call):
        names = ["put", "lift", "clear", "mitchell", "cyclic", "robin", "switch", "renumber", "check"]
        return getattr(self, names[call[0]])(*call[1:])

    def put(self, r, t, n, e, b):
        if outside([r, t, n, e, b], [(1, 20), (1, 20), (1, 99), (1, 99), (1, 20)]):
            return [-1]
        if n == e:
            return [-3]
        self.rows = sorted([row for row in self.rows if row[:2] != (r, t)] + [(r, t, n, e, b)])
        return [0]

    def lift(self, r, t):
        if outside([r, t], [(1, 20), (1, 20)]):
            return [-1]
        kept = [row for row in self.rows if row[:2] != (r, t)]
        if kept == self.rows:
            return [-2]
        self.rows = kept
        return [0]

    def clear(self):
        self.rows = []
        return [0]

    def mitchell(self, n, kind):
        if outside([n, kind], [(1, 20), (0, 2)]):
            return [-1]
        if kind and n % 2:
            return [-4]
        self.rows = []
        for r in range(1, n + 1 if kind != 1 else n):
            for t in range(1, n + 1):
                back = r - 1
                if kind == 1 and 2 * (r - 1) >= n:
                    back = r
                boards = t - 1
                if kind == 2 and 2 * (t - 1) >= n:
                    boards = t
                self.rows.append((r, t, t, n + 1 + (t - 1 - back) % n, 1 + (boards + r - 1) % n))
        return [0, len(self.rows)]

    def cyclic(self, m, count, *row):
        if outside([m], [(1, 19)]) or count not in range(0, 61, 3) or outside(row, [(0, 19)] * count):
            return [-1]
        tables = list(zip(row[0::3], row[1::3], row[2::3]))
        if any(max(a, b) > m or a == b or s >= m for a, b, s in tables):
            return [-5]
        going = tables
        self.rows = []
        for r in range(1, m + 1):
            for t, (a, b, s) in enumerate(going, 1):
                self.rows.append((r, t, a + 1, b + 1, s + 1))
            going = [
                (a if a == m else (a + 1) % m, b if b == m else (b + 1) % m, (s + 1) % m)
                for a, b, s in going
            ]
        return [0, len(self.rows)]

    def robin(self, n):
        if outside([n], [(2, 20)]):
            return [-1]
        if n % 2:
            return [-4]
        self.rows = []
        for i in range(n - 1):
            self.rows.append((i + 1, 1, n, i + 1, i + 1))
            for j in range(1, n // 2):
                self.rows.append((i + 1, j + 1, 1 + (i + j) % (n - 1), 1 + (i - j) % (n - 1), i + 1))
        return [0, len(self.rows)]

    def switch(self, r):
        if outside([r], [(1, 20)]):
            return [-1]
        if not any(row[0] == r for row in self.rows):
            return [-2]
        self.rows = [(k, t, e, n, b) if k == r else (k, t, n, e, b) for k, t, n, e, b in self.rows]
        return [0]

    def renumber(self, p, q):
        if outside([p, q], [(1, 99), (1, 99)]):
            return [-1]
        other = {p: q, q: p}
        self.rows = [(r, t, other.get(n, n), other.get(e, e), b) for r, t, n, e, b in self.rows]
        return [0]

    def check(self):
        kinds = [set(), set(), set(), set()]
        for x, y in combinations(self.rows, 2):
            both = set(x[2:4]) & set(y[2:4])
            if x[0] == y[0]:
                kinds[0] |= {(x[0], pair) for pair in both}
            if x[4] == y[4]:
                kinds[1] |= {(pair, x[4]) for pair in both}
            if len(both) == 2:
                kinds[2].add(frozenset(both))
            if x[0] == y[0] and x[4] == y[4]:
                kinds[3].add((x[0], x[4]))
        return [0] + [len(kind) for kind in kinds]
