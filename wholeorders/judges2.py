"""A judge of papers of facts: it believes none, and puts together itself what a paper tells."""

from wholeorders.asked import holds_by, hooked_asked, is_let_row, is_of_form, measures_asked, traits_of
from wholeorders.facts import check_fact, does_hold
from wholeorders.folds import TraitFolds
from wholeorders.growths import nodes_of
from wholeorders.hopes import Hopes
from wholeorders.lists import check_list, does_let, least_of
from wholeorders.lots import merged_of
from wholeorders.patterns import is_pattern
from wholeorders.roads import MOST_SIMPLE, few_paper
from wholeorders.weights import Counts


def judge_fact(forbidden, fact, paper):
    """Tell whether something is a paper of a fact, and right, for a list with few simple orders."""
    check_list(forbidden)
    check_fact(fact)
    simple = few_paper(forbidden, MOST_SIMPLE)[1]
    if not isinstance(paper, tuple) or len(paper) != 2:
        return False
    if paper[0] == "breaks":
        return judge_breaking(forbidden, fact, simple, paper[1])
    return paper[0] == "all" and judge_rows(forbidden, fact, simple, paper[1])


def judge_breaking(forbidden, fact, simple, order):
    """Tell whether something is a let order of one or more things and of fewest of which the fact is not true."""
    if not is_pattern(order) or not does_let(forbidden, order) or does_hold(fact, order):
        return False
    fewer = len(order) - 1
    nodes = nodes_of(forbidden, [node for node in simple if len(node) <= fewer])
    counts = Counts(merged_of(least_of(forbidden), fact, nodes, fewer), fewer)
    return all([holds or not any(many) for holds, many in zip(counts.merged.signs, counts.many)])


def judge_rows(forbidden, fact, simple, rows):
    """Tell whether something is a closed tuple of traits of each of which the fact is true."""
    if not isinstance(rows, tuple):
        return False
    for row in rows:
        if not is_of_form(forbidden, fact, row) or not is_let_row(forbidden, row) or not holds_by(forbidden, fact, row):
            return False
    if not all([rows[at - 1] < rows[at] for at in range(1, len(rows))]):
        return False
    if does_let(forbidden, (1,)) and traits_of(forbidden, fact, (1,)) not in rows:
        return False
    nodes = nodes_of(forbidden, simple)
    folds = TraitFolds(nodes, hooked_asked(forbidden, fact), measures_asked(fact), len(forbidden), False)
    numbers = {folds.row_of(row): True for row in rows}
    plain = [folds.row_of(row) for row in rows if shows_one_thing(forbidden, row)]
    # Those that show one thing are soon put together, and most faults come to light there.
    if not are_closed(folds, plain, numbers, Hopes(folds, folds.row_of(traits_of(forbidden, fact, (1,))))):
        return False
    return len(plain) == len(rows) or are_closed(folds, list(numbers), numbers, None)


def shows_one_thing(forbidden, row):
    """Tell whether a row has all pieces of one thing, of patterns of the list, that its places beside others allow."""
    pieces = {piece: True for piece in row[1]}
    for index, pattern in enumerate(forbidden):
        for thing in range(len(pattern)):
            for left, right in ((0, 0), (0, 1), (1, 0)):
                if (index, thing, thing + 1, left, right) not in pieces:
                    return False
    return True


def are_closed(folds, chosen, rows, hopes):
    """Tell whether all that is put together of chosen rows, and is let, is among the rows."""
    for index in range(len(folds.nodes)):
        if not is_closed_at(folds, index, children_of(folds, index, chosen, hopes), rows, hopes):
            return False
    return True


def children_of(folds, index, chosen, hopes):
    """Return, for each child of a node, the list of what is kept of the chosen rows that may be its."""
    found = []
    for at in range(len(folds.nodes[index])):
        fit = [row for row in chosen if at > 0 or folds.may_begin(index, row)]
        kept = {folds.kept_of_row(index, at, row): True for row in fit}
        found.append([one for one in kept if hopes is None or hopes.may_be_child(index, at, one)])
    return found


def is_closed_at(folds, index, children, rows, hopes):
    """Tell whether all that is put together of a node and what is kept for its children, and is let, is among the rows.

    If all that is put together shows one thing, there are hopes: what nothing let comes of need not be followed.
    """
    size = len(folds.nodes[index])
    start = (0, folds.start_of(index))
    known = {start: True}
    waiting = [start]
    while waiting:
        at, state = waiting.pop()
        for kept in children[at]:
            found = folds.folded(index, at, state, kept)
            if found is not None and at + 1 == size and found not in rows:
                return False
            if found is not None and at + 1 < size and (at + 1, found) not in known:
                known[(at + 1, found)] = True
                if hopes is None or hopes.may_go_on(index, at + 1, found):
                    waiting.append((at + 1, found))
    return True
