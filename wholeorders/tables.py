"""Facts, decided for all orders that a list with few simple orders lets, by a closed table of traits."""

from wholeorders.asked import holds_by
from wholeorders.errors import TooMany
from wholeorders.facts import check_fact
from wholeorders.growths import growth_of
from wholeorders.integers import check_number
from wholeorders.lists import by_length, check_list
from wholeorders.roads import MOST_SIMPLE, few_paper


def check_all(forbidden, facts, most):
    """Raise what is due for what is no list, no fact or no number."""
    check_list(forbidden)
    for fact in facts:
        check_fact(fact)
    check_number(most)


def rows_of(forbidden, fact, most):
    """Return the dict of the traits of all let orders of one or more things, with an order of fewest things each."""
    simple = few_paper(forbidden, MOST_SIMPLE)[1]
    if simple:
        # Sums and skew sums alone are soon put together, and often they are too many already.
        rows_put_together(forbidden, fact, (), most)
    return rows_put_together(forbidden, fact, simple, most)


def rows_put_together(forbidden, fact, simple, most):
    """Return the dict of the traits of all let orders that come of sums, skew sums and some simple orders."""
    growth = growth_of(forbidden, fact, simple)
    while growth.waiting:
        growth.take_fewest()
        if len(growth.rows) > most:
            raise TooMany(most)
    return {growth.folds.traits_of(row): order for row, order in growth.rows.items()}


def table(forbidden, fact, *, most=400):
    """Return the table: the ascending tuple of the traits of all let orders of one or more things."""
    check_all(forbidden, (fact,), most)
    return tuple(sorted(rows_of(forbidden, fact, most)))


def decided(forbidden, fact, *, most=400):
    """Return a paper of a fact: the table, or an order of fewest things of which the fact is not true."""
    check_all(forbidden, (fact,), most)
    return paper_of(forbidden, fact, most)


def paper_of(forbidden, fact, most):
    """Return a paper of a fact; nothing is checked."""
    rows = rows_of(forbidden, fact, most)
    breaking = [order for row, order in rows.items() if not holds_by(forbidden, fact, row)]
    if breaking:
        return "breaks", min(breaking, key=by_length)
    return "all", tuple(sorted(rows))


def implied(forbidden, one, other, *, most=400):
    """Return a paper of the fact that the other one is true wherever the one is."""
    check_all(forbidden, (one, other), most)
    return paper_of(forbidden, ("either", ("not", one), other), most)


def examples(forbidden, fact, *, most=400):
    """Return the ascending list of (row, order) of the rows of the table, the order one of fewest things."""
    check_all(forbidden, (fact,), most)
    return sorted(rows_of(forbidden, fact, most).items())
