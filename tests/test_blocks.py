"""wholeorders.blocks: sums, blocks, simple orders, what is put together, trees and shapes."""

import random
import unittest

from tests.helpers import NO_ORDERS, Case, all_orders, orders_to, slow_blocks, slow_is_simple, slow_pattern
from wholeorders.errors import InvalidOrder, InvalidPair
from wholeorders.blocks import (blocks, from_shape, from_tree, is_shape, is_simple, parts, put_together, shape,
                                skew_parts, skew_summed, summed, tree)

ONE = ("one",)
PAIR = ("sum", (ONE, ONE))
NO_TREES = (
    None, 3, "one", (), [], ["one"], ("two",), ("one", ()), ("one", ONE), ("sum",), ("sum", ()), ("sum", (ONE,)),
    ("sum", [ONE, ONE]), ("sum", (ONE, ["one"])), ("sum", (ONE, None)), ("sum", (PAIR, ONE)), ("sum", (ONE, PAIR)),
    ("sum", ONE, ONE), ["sum", (ONE, ONE)], ("skew", (ONE,)), ("skew", (("skew", (ONE, ONE)), ONE)),
    ("skew", (ONE, ("skew", (ONE, ONE)))), ("simple", (2, 4, 1, 3)), ("simple", (2, 4, 1, 3), ()),
    ("simple", (2, 4, 1, 3), (ONE, ONE, ONE)), ("simple", (2, 4, 1, 3), [ONE, ONE, ONE, ONE]),
    ("simple", [2, 4, 1, 3], (ONE, ONE, ONE, ONE)), ("simple", (2, 4, 3, 1), (ONE, ONE, ONE, ONE)),
    ("simple", (1, 2), (ONE, ONE)), ("simple", (1,), (ONE,)), ("simple", (2, 4, 1, 5), (ONE, ONE, ONE, ONE)),
    ("simple", (2, 4, 1, 3), (ONE, ONE, ONE, ("sum", (ONE,)))), ("simple", None, (ONE,)), (1, 2), ((), ()), (ONE,),
    ("simple", (2, 4, 1, 3), (ONE, ONE, ONE, ONE), ONE), ("SUM", (ONE, ONE)))
NO_SHAPES = (
    None, 3, "one", (), [], ["one"], ("two",), ("one", ()), ("sum", ONE), ("sum", (ONE, ONE)), ("sum", ONE, ONE, ONE),
    ("sum", ("sum", ONE, ONE), ONE), ("skew", ("skew", ONE, ONE), ONE), ("sum", ["one"], ONE), ("sum", ONE, ["one"]),
    ["sum", ONE, ONE], ("sum", ONE, None), ("sum", None, ONE), ("skew", (), ONE), ("simple", (2, 4, 1, 3)),
    ("simple", (2, 4, 1, 3), (ONE, ONE, ONE)), ("simple", (2, 4, 1, 3), [ONE, ONE, ONE, ONE]),
    ("simple", [2, 4, 1, 3], (ONE, ONE, ONE, ONE)), ("simple", (2, 4, 3, 1), (ONE, ONE, ONE, ONE)),
    ("simple", (2, 1), (ONE, ONE)), ("simple", (2, 4, 1, 3), (ONE, ONE, ONE, ONE, ONE)), (1, 2, 3),
    ("simple", (2, 4, 1, 3), (ONE, ONE, ONE, (ONE,))), ("simple", 4, (ONE, ONE, ONE, ONE)), (ONE, ONE, ONE))


def cuts(order):
    """Return the places at which an order is a sum of what stands ahead and what stands behind, none ()."""
    return [at for at in range(1, len(order)) if max(order[:at]) < min(order[at:])]


def nested(many):
    """Return an order of many things in parts, whose second part is in skew parts, and so on."""
    order = (1,)
    for at in range(many - 1):
        order = summed((1,), order) if at % 2 else skew_summed((1,), order)
    return order


class SumsTest(Case):
    def test_sums(self):
        for one in orders_to(4):
            for other in orders_to(3):
                self.assertEqual(summed(one, other), one + tuple(number + len(one) for number in other))
                self.assertEqual(skew_summed(one, other), tuple(number + len(other) for number in one) + other)
        self.assertEqual(skew_summed((1, 2), (1,)), (2, 3, 1))
        self.assertEqual([summed((), ()), skew_summed((), ())], [(), ()])

    def test_parts(self):
        self.assertEqual([parts(()), skew_parts(()), parts((1,)), skew_parts((1,))], [(), (), ((1,),), ((1,),)])
        self.assertEqual(parts((2, 1, 3, 6, 5, 4)), ((2, 1), (1,), (3, 2, 1)))
        for order in orders_to(6):
            bounds = [0] + cuts(order) + [len(order)] if order else []
            found = tuple(slow_pattern(order[low:high]) for low, high in zip(bounds, bounds[1:]))
            self.assertEqual(parts(order), found)
            whole = ()
            for part in parts(order):
                whole = summed(whole, part)
            self.assertEqual(whole, order)
            whole = ()
            for part in skew_parts(order):
                self.assertEqual(len(skew_parts(part)), 1)
                self.assertNotEqual(part, ())
                whole = skew_summed(whole, part)
            self.assertEqual(whole, order)

    def test_errors(self):
        for told in NO_ORDERS:
            for function in (summed, skew_summed):
                self.assert_raises(InvalidOrder, told, function, told, (1,))
                self.assert_raises(InvalidOrder, told, function, (1,), told)
                self.assert_raises(InvalidOrder, told, function, told, (5,))
            for function in (parts, skew_parts, blocks, is_simple):
                self.assert_raises(InvalidOrder, told, function, told)


class BlocksTest(Case):
    def test_all_orders_of_few_things(self):
        for order in orders_to(6):
            self.assertEqual(blocks(order), slow_blocks(order))
            self.assertIs(is_simple(order), slow_is_simple(order))
        self.assertEqual([len([order for order in all_orders(n) if is_simple(order)]) for n in range(8)],
                         [0, 0, 0, 0, 2, 6, 46, 338])

    def test_large_ones(self):
        rising = tuple(range(1, 13))
        self.assertEqual(blocks(rising), slow_blocks(rising))
        self.assertEqual(blocks(()), [])
        self.assertIs(is_simple((2, 4, 6, 8, 10, 12, 1, 3, 5, 7, 9, 11)), True)
        self.assertIs(is_simple((2, 4, 6, 8, 10, 1, 3, 5, 7, 9, 12, 11)), False)

    def test_put_together(self):
        self.assertEqual(put_together((2, 4, 1, 3), ((1,), (1, 2), (1,), (1,))), (2, 4, 5, 1, 3))
        self.assertEqual(put_together((2, 1), ((2, 1, 3), (1, 2))), (4, 3, 5, 1, 2))
        self.assertEqual(put_together((), ()), ())
        self.assertEqual(put_together((1,), ((2, 4, 1, 3),)), (2, 4, 1, 3))
        chance = random.Random(2)
        some = orders_to(3)[1:]
        for order in orders_to(4):
            for _ in range(5):
                orders = tuple(chance.choice(some) for _ in order)
                self.check_put_together(order, orders)
        self.check_put_together((3, 1, 2), (tuple(range(1, 5)), (4, 3, 2, 1), (2, 4, 1, 3)))

    def check_put_together(self, order, orders):
        whole = put_together(order, orders)
        self.assertEqual(sorted(whole), list(range(1, len(whole) + 1)))
        firsts = []
        start = 0
        for inner in orders:
            self.assertIn((start, start + len(inner)), slow_blocks(whole))
            self.assertEqual(slow_pattern(whole[start:start + len(inner)]), inner)
            firsts.append(whole[start])
            start += len(inner)
        self.assertEqual(slow_pattern(firsts), order)
        self.assertEqual(start, len(whole))

    def test_errors_of_put_together(self):
        for told in NO_ORDERS:
            self.assert_raises(InvalidOrder, told, put_together, told, ())
            self.assert_raises(InvalidOrder, told, put_together, (1, 2), ((1,), told))
            self.assert_raises(InvalidOrder, told, put_together, told, ((),))
        self.assert_raises(InvalidOrder, (), put_together, (1, 2), ((1,), ()))
        self.assert_raises(InvalidOrder, (2,), put_together, (1, 2), ((1,), (2,), ()))
        self.assert_raises(InvalidOrder, (), put_together, (1, 2), ((), (2,)))
        self.assert_raises(InvalidOrder, (), put_together, (1,), ((1,), ()))
        self.assert_raises(InvalidPair, (2, 1), put_together, (1, 2), ((1,),))
        self.assert_raises(InvalidPair, (0, 1), put_together, (), ((1,),))
        self.assert_raises(InvalidPair, (1, 0), put_together, (1,), ())


class TreesTest(Case):
    def test_told_ones(self):
        self.assertEqual(tree((1,)), ONE)
        self.assertEqual(tree((1, 2, 3)), ("sum", (ONE, ONE, ONE)))
        self.assertEqual(tree((3, 2, 1)), ("skew", (ONE, ONE, ONE)))
        self.assertEqual(tree((2, 4, 5, 1, 3)), ("simple", (2, 4, 1, 3), (ONE, PAIR, ONE, ONE)))

    def test_each_order_has_just_one(self):
        found = {}
        for order in orders_to(6)[1:]:
            told = tree(order)
            self.assertEqual(from_tree(told), order)
            self.assertNotIn(told, found)
            found[told] = order
            self.check_tree(order, told)

    def check_tree(self, order, told):
        """Each order of two or more things is in parts, or in skew parts, or put together of just one simple one."""
        kinds = [told[0] == "sum", told[0] == "skew", told[0] == "simple"]
        self.assertEqual(kinds[0], len(parts(order)) > 1)
        self.assertEqual(kinds[1], len(skew_parts(order)) > 1)
        self.assertEqual(sum(kinds), 0 if len(order) == 1 else 1)
        if kinds[0]:
            self.assertEqual(told[1], tuple(tree(part) for part in parts(order)))
        if kinds[1]:
            self.assertEqual(told[1], tuple(tree(part) for part in skew_parts(order)))
        if kinds[2]:
            inner = tuple(from_tree(one) for one in told[2])
            self.assertTrue(slow_is_simple(told[1]))
            self.assertEqual(put_together(told[1], inner), order)

    def test_no_other_simple_one_and_orders_make_it(self):
        simple = [order for order in orders_to(5) if slow_is_simple(order)]
        some = orders_to(3)[1:]
        for order in simple:
            for at in range(len(order)):
                for inner in some:
                    orders = tuple(inner if place == at else (1,) for place in range(len(order)))
                    told = tree(put_together(order, orders))
                    self.assertEqual(told, ("simple", order, tuple(tree(one) for one in orders)))

    def test_large_ones(self):
        for many in (12, 120):
            order = nested(many)
            self.assertEqual(from_tree(tree(order)), order)
        self.assertEqual(tree(tuple(range(1, 13))), ("sum", (ONE,) * 12))
        large = put_together((2, 4, 1, 3), ((2, 4, 1, 3), (3, 1, 4, 2), (1, 2), (2, 1)))
        self.assertEqual(from_tree(tree(large)), large)

    def test_errors(self):
        for told in NO_ORDERS + ((),):
            self.assert_raises(InvalidOrder, told, tree, told)
        for told in NO_TREES:
            self.assert_raises(InvalidPair, told, from_tree, told)


class ShapesTest(Case):
    def test_told_ones(self):
        self.assertEqual(shape((1,)), ONE)
        self.assertEqual(shape((2, 1, 3)), ("sum", ("skew", ONE, ONE), ONE))
        self.assertEqual(shape((1, 2, 3)), ("sum", ONE, ("sum", ONE, ONE)))
        self.assertEqual(shape((3, 2, 1)), ("skew", ONE, ("skew", ONE, ONE)))
        self.assertEqual(shape((2, 4, 5, 1, 3)), ("simple", (2, 4, 1, 3), (ONE, ("sum", ONE, ONE), ONE, ONE)))

    def test_each_order_has_just_one(self):
        found = {}
        for order in orders_to(6)[1:]:
            told = shape(order)
            self.assertIs(is_shape(told), True)
            self.assertEqual(from_shape(told), order)
            self.assertNotIn(told, found)
            found[told] = order
            self.check_shape(order, told)

    def check_shape(self, order, told):
        for kind, pieces, put in (("sum", parts(order), summed), ("skew", skew_parts(order), skew_summed)):
            if len(pieces) > 1:
                rest = ()
                for piece in pieces[1:]:
                    rest = put(rest, piece)
                self.assertEqual(told, (kind, shape(pieces[0]), shape(rest)))
                return
        if len(order) > 1:
            head, inner = tree(order)[1:]
            self.assertEqual(told, ("simple", head, tuple(shape(from_tree(one)) for one in inner)))

    def test_as_large_as_they_may_be(self):
        for order in (tuple(range(1, 41)), tuple(range(40, 0, -1)), nested(40)):
            self.assertEqual(from_shape(shape(order)), order)
            self.assertIs(is_shape(shape(order)), True)
        large = put_together((2, 4, 1, 3), (tuple(range(1, 11)), nested(10), tuple(range(10, 0, -1)), nested(10)))
        self.assertEqual(from_shape(shape(large)), large)
        parallel = tuple(range(2, 41, 2)) + tuple(range(1, 41, 2))
        self.assertEqual(shape(parallel), ("simple", parallel, (ONE,) * 40))

    def test_errors(self):
        for told in NO_ORDERS + ((),):
            self.assert_raises(InvalidOrder, told, shape, told)
        for told in NO_SHAPES:
            self.assertIs(is_shape(told), False, told)
            self.assert_raises(InvalidPair, told, from_shape, told)


if __name__ == "__main__":
    unittest.main()
