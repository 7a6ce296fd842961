"""A second telling of the document, slow and by itself, to hold the program against.

It draws nothing from the package, and counts by looking at every two seatings.
"""

from itertools import combinations, product


def outside(numbers, ranges):
    return any(not low <= number <= high for number, (low, high) in zip(numbers, ranges))


def refused_first_round(m, count, row):
    """By which number a first round is refused, or None."""
    if outside([m], [(1, 19)]) or count not in range(0, 61, 3) or outside(row, [(0, 19)] * count):
        return -1
    if any(max(a, b) > m or a == b or s >= m for a, b, s in zip(row[0::3], row[1::3], row[2::3])):
        return -5
    return None


def counted_between(rows, p, q):
    """Every (x, y) of "Competing", one by one: how many are alike, how many unlike, how often p and q meet."""
    counts = {"alike": 0, "unlike": 0}
    for x, y in product([row for row in rows if p in row[2:4]], [row for row in rows if q in row[2:4]]):
        if x[4] == y[4] and x[:2] != y[:2]:
            p_is_north_south = x[2] == p
            q_is_north_south = y[2] == q
            counts["alike" if p_is_north_south == q_is_north_south else "unlike"] += 1
    meet = [row for row in rows if p in row[2:4] and q in row[2:4]]
    return counts["alike"], counts["unlike"], len(meet)


def counted_competing(rows, p, q):
    """How much p and q compete, as "Competing" tells it."""
    alike, unlike, often = counted_between(rows, p, q)
    much = alike - unlike
    for row in rows:
        if p in row[2:4] and q in row[2:4]:
            much -= len([other for other in rows if other[4] == row[4] and other[:2] != row[:2]])
    return much


class Model:
    def __init__(self):
        self.rows = []

    def answer(self, call):
        names = (
            "put lift clear mitchell cyclic robin switch renumber check first at between plays balance size list starter "
            "missing"
        ).split()
        return getattr(self, names[call[0]])(*call[1:])

    def put(self, r, t, n, e, b):
        if outside([r, t, n, e, b], [(1, 20), (1, 20), (1, 99), (1, 99), (1, 20)]):
            return [-1]
        if n == e:
            return [-3]
        self.rows = sorted([row for row in self.rows if row[:2] != (r, t)] + [(r, t, n, e, b)])
        return [0]

    def lift(self, r, t):
        if outside([r, t], [(1, 20), (1, 20)]):
            return [-1]
        kept = [row for row in self.rows if row[:2] != (r, t)]
        if kept == self.rows:
            return [-2]
        self.rows = kept
        return [0]

    def clear(self):
        self.rows = []
        return [0]

    def mitchell(self, n, kind):
        if outside([n, kind], [(1, 20), (0, 2)]):
            return [-1]
        if kind and n % 2:
            return [-4]
        self.rows = []
        for r in range(1, n + 1 if kind != 1 else n):
            for t in range(1, n + 1):
                back = r - 1
                if kind == 1 and 2 * (r - 1) >= n:
                    back = r
                boards = t - 1
                if kind == 2 and 2 * (t - 1) >= n:
                    boards = t
                self.rows.append((r, t, t, n + 1 + (t - 1 - back) % n, 1 + (boards + r - 1) % n))
        return [0, len(self.rows)]

    def cyclic(self, m, count, *row):
        refusal = refused_first_round(m, count, row)
        if refusal is not None:
            return [refusal]
        going = list(zip(row[0::3], row[1::3], row[2::3]))
        self.rows = []
        for r in range(1, m + 1):
            for t, (a, b, s) in enumerate(going, 1):
                self.rows.append((r, t, a + 1, b + 1, s + 1))
            going = [
                (a if a == m else (a + 1) % m, b if b == m else (b + 1) % m, (s + 1) % m)
                for a, b, s in going
            ]
        return [0, len(self.rows)]

    def robin(self, n):
        if outside([n], [(2, 20)]):
            return [-1]
        if n % 2:
            return [-4]
        self.rows = []
        for i in range(n - 1):
            self.rows.append((i + 1, 1, n, i + 1, i + 1))
            for j in range(1, n // 2):
                self.rows.append((i + 1, j + 1, 1 + (i + j) % (n - 1), 1 + (i - j) % (n - 1), i + 1))
        return [0, len(self.rows)]

    def switch(self, r):
        if outside([r], [(1, 20)]):
            return [-1]
        if not any(row[0] == r for row in self.rows):
            return [-2]
        self.rows = [(k, t, e, n, b) if k == r else (k, t, n, e, b) for k, t, n, e, b in self.rows]
        return [0]

    def renumber(self, p, q):
        if outside([p, q], [(1, 99), (1, 99)]):
            return [-1]
        other = {p: q, q: p}
        self.rows = [(r, t, other.get(n, n), other.get(e, e), b) for r, t, n, e, b in self.rows]
        return [0]

    def faults(self):
        """The faults of each kind, unordered, by looking at every two seatings."""
        kinds = [set(), set(), set(), set()]
        for x, y in combinations(self.rows, 2):
            both = set(x[2:4]) & set(y[2:4])
            if x[0] == y[0]:
                kinds[0] |= {(x[0], pair) for pair in both}
            if x[4] == y[4]:
                kinds[1] |= {(pair, x[4]) for pair in both}
            if len(both) == 2:
                kinds[2].add((min(both), max(both)))
            if x[0] == y[0] and x[4] == y[4]:
                kinds[3].add((x[0], x[4]))
        return kinds

    def check(self):
        return [0] + [len(kind) for kind in self.faults()]

    def first(self, kind):
        if outside([kind], [(1, 4)]):
            return [-1]
        return [0, *min(self.faults()[kind - 1], default=())]

    def at(self, p, r):
        if outside([p, r], [(1, 99), (1, 20)]):
            return [-1]
        for table in range(1, 21):
            for k, t, n, e, b in self.rows:
                if (k, t, n) == (r, table, p):
                    return [0, t, 1, e, b]
                if (k, t, e) == (r, table, p):
                    return [0, t, 2, n, b]
        return [0]

    def between(self, p, q):
        if outside([p, q], [(1, 99), (1, 99)]):
            return [-1]
        if p == q:
            return [-3]
        return [0, *counted_between(self.rows, p, q)]

    def plays(self, p, b):
        if outside([p, b], [(1, 99), (1, 20)]):
            return [-1]
        return [0, sum((row[2] == p) + (row[3] == p) for row in self.rows if row[4] == b)]

    def pairs(self):
        return {pair for row in self.rows for pair in row[2:4]}

    def balance(self):
        amounts = [counted_competing(self.rows, p, q) for p, q in combinations(self.pairs(), 2)]
        return [0, sum(amounts), sum(much ** 2 for much in amounts), len(amounts)]

    def size(self):
        return [0, len(self.pairs())] + [len({row[column] for row in self.rows}) for column in (0, 1, 4)]

    def list(self):
        return [0] + [number for row in sorted(self.rows) for number in row]

    def starter(self, m, count, *row):
        refusal = refused_first_round(m, count, row)
        if refusal is not None:
            return [refusal]
        differences = []
        leads = []
        for a, b, s in zip(row[0::3], row[1::3], row[2::3]):
            differences += [(a - b) % m, (b - a) % m] if m not in (a, b) else []
            leads += [(s - number) % m for number in (a, b) if number != m]
        return [0] + [int(all(values.count(value) == 1 for value in values)) for values in (differences, leads)]

    def missing(self, p):
        if outside([p], [(1, 99)]):
            return [-1]
        never_met = [
            other for other in self.pairs() if other != p and not any({p, other} == set(row[2:4]) for row in self.rows)
        ]
        never_played = [
            b for b in {row[4] for row in self.rows} if not any(p in row[2:4] and row[4] == b for row in self.rows)
        ]
        return [0, len(never_met), len(never_played)]
