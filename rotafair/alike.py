"""Two rules held against each other over some marks [12 to 16]."""

from rotafair.errors import TooWide
from rotafair.rules import last_marks

MOST_TAILS = 400


def alike(rule, other, marks):
    kept = max(rule.reach(), other.reach()) - 1
    tails = {"": True}
    rows = [""]
    while rows:
        good = []
        for row in longer_rows(rows, marks):
            bad = rule.bad(row)
            if bad != other.bad(row):
                return ("parted", row)
            if not bad:
                good.append(row)
        rows = rows_of_new_tails(good, kept, tails)
        # Asked only now: a row that parts the two goes ahead of too many tails.
        if len(tails) > MOST_TAILS:
            raise TooWide("there are too many tails")
    return ("alike", sorted(tails))


def longer_rows(rows, marks):
    longer = []
    for row in rows:
        longer += [row + mark for mark in marks]
    return longer


def rows_of_new_tails(rows, kept, tails):
    # Neither rule looks beyond a tail, so one row stands for all that share one.
    new = []
    for row in rows:
        tail = last_marks(row, kept)
        if tail not in tails:
            tails[tail] = True
            new.append(row)
    return new
