"""Whether a list lets few simple orders, or along which kind or road they grow without end."""

from wholeorders.errors import InvalidPaper, NotFew, TooMany
from wholeorders.families import first_endless_kind, is_kind, member_of
from wholeorders.integers import check_number
from wholeorders.lists import check_list
from wholeorders.pins import first_road, is_pin_word, left_out, order_of_pins
from wholeorders.steps import LEAST, simples_behind

SHORTEST_ROAD = 5
MOST_SIMPLE = 300


def fate(forbidden, *, most=300):
    """Return the paper of a list: few simple orders, or a kind or a road that never ends."""
    check_list(forbidden)
    check_number(most)
    kind = first_endless_kind(forbidden)
    if kind is not None:
        return "family", kind
    road = first_road(forbidden)
    if road is not None:
        return "pins", road[0], road[1]
    orders, n = few_simples(forbidden, most)
    return "few", orders, n


def few_simples(forbidden, most):
    """Return (orders, n) as the paper of a list that lets few simple orders has them."""
    found = []
    n = LEAST
    ahead = simples_behind(forbidden, [], n)
    while True:
        found.extend(ahead)
        if len(found) > most:
            raise TooMany(most)
        behind = simples_behind(forbidden, ahead, n + 1)
        if not ahead and not behind:
            return tuple(found), n
        ahead = behind
        n += 1


def few_paper(forbidden, most):
    """Return the paper of a list if it lets few simple orders; raise NotFew with the other paper if it does not."""
    paper = fate(forbidden, most=most)
    if paper[0] != "few":
        raise NotFew(paper)
    return paper


def simples(forbidden, *, most=300):
    """Return the tuple of all simple orders that a list lets, if they are few."""
    return few_paper(forbidden, most)[1]


def longest(forbidden, *, most=300):
    """Return how many things the longest simple order has that a list lets, 0 if there is none, None without end."""
    paper = fate(forbidden, most=most)
    if paper[0] != "few":
        return None
    return max([len(order) for order in paper[1]], default=0)


def is_road(seed, way):
    """Tell whether a seed and a way round, put together again and again, are pin words."""
    if not isinstance(seed, tuple) or not isinstance(way, tuple) or len(seed) == 0 or len(way) == 0:
        return False
    return is_pin_word(seed + way + way)


def is_endless_paper(told):
    """Tell whether something is a paper of a kind or of a road, of any list."""
    if not isinstance(told, tuple):
        return False
    if len(told) == 2:
        return told[0] == "family" and is_kind(told[1])
    return len(told) == 3 and told[0] == "pins" and is_road(told[1], told[2])


def grown(paper, n):
    """Return the tuple of the first n simple orders along the kind or the road of a paper."""
    if not is_endless_paper(paper):
        raise InvalidPaper(paper)
    check_number(n)
    if paper[0] == "family":
        return tuple([member_of(paper[1], more) for more in range(2, n + 2)])
    return grown_on_road(paper[1], paper[2], n)


def grown_on_road(seed, way, n):
    """Return the tuple of the first n simple orders of the words of a road, from five letters on."""
    found = []
    word = seed
    while len(found) < n:
        if len(word) >= SHORTEST_ROAD:
            found.append(order_of_pins(word, left_out(word)))
        word = word + way
    return tuple(found)
