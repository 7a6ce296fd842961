"""First rounds of cycles: for each table the triple (a, b, s), and what can be told from these alone."""


def triples_of(row):
    """A first round's row, cut into (a, b, s) for each table."""
    return [(row[k], row[k + 1], row[k + 2]) for k in range(0, len(row), 3)]


def is_first_round(m, triples):
    for a, b, s in triples:
        if a > m or b > m or a == b or s >= m:
            return False
    return True


def differences_of(m, triples):
    """Both ways round for each table, so that a value may be there more than once."""
    found = []
    for a, b, s in triples:
        # The pair told by m stays while the others go on, so it has no steady difference to any of them.
        if a != m and b != m:
            found.append((a - b) % m)
            found.append((b - a) % m)
    return found


def leads_of(m, triples):
    """How far the set is ahead of each pair that goes on, so that a value may be there more than once."""
    found = []
    for a, b, s in triples:
        for number in (a, b):
            if number != m:
                found.append((s - number) % m)
    return found
