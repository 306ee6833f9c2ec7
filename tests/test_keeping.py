"""Points [48] to [56], and [1] and [2] for keepers."""

import itertools
import random

from fewserve.errors import BadAsk, BadLot
from fewserve.keeping import Keeper
from fewserve.kinds import Kinds
from fewserve.roots import Roots
from fewserve.schemes import Scheme, first_fit, kept_list
from fewserve.tables import Table
from tests import slow
from tests.drawn import Drawn, draw_scheme


def small():
    """Return the scheme of the example in [50]."""
    return Scheme(Table.plain(3, 2), 1)


class Deeds(slow.Case):
    def test_example(self):
        keeper = Keeper(small())
        self.assertEqual(keeper.take(5, (0,)), ("kept", None, []))
        self.assertEqual(keeper.take(1, (1,)), ("kept", None, []))
        told = ("traded", (1, (1,)), [(49, (5, (0,))), (49, (3, (2,)))])
        self.assertEqual(keeper.take(3, (2,)), told)
        self.assertEqual(list(keeper), [(5, (0,)), (3, (2,))])
        self.assertEqual(keeper.take(3, (2,)), ("left", (3, (2,)), [(1, (3, (2,)))]))
        self.assertEqual(keeper.take(1, (1,)), ("left", (1, (1,)), [(49, (5, (0,))), (49, (3, (2,)))]))
        self.assertEqual(list(keeper), [(5, (0,)), (3, (2,))])

    def test_item_in_the_list(self):
        keeper = Keeper(small(), [(5, (0,)), (5, (1,))])
        for item in ((5, (0,)), (5, (1,))):
            self.assertEqual(keeper.take(*item), ("left", item, [(1, item)]))
        self.assertEqual(list(keeper), [(5, (0,)), (5, (1,))])

    def test_same_lot_with_another_worth(self):
        keeper = Keeper(small(), [(5, (0,))])
        self.assertEqual(keeper.take(4, (0,)), ("left", (4, (0,)), [(1, (5, (0,)))]))
        self.assertEqual(keeper.take(6, (0,)), ("traded", (5, (0,)), [(1, (6, (0,)))]))
        self.assertEqual(list(keeper), [(6, (0,))])

    def test_row_of_zeros(self):
        table = Table([[0, 0], [1, 1], [2, 2]], 2)
        keeper = Keeper(Scheme(table, 1))
        self.assertEqual(keeper.take(9, (0,)), ("left", (9, (0,)), []))
        self.assertEqual(keeper.take(1, (1,)), ("kept", None, []))
        self.assertEqual(keeper.take(9, (0,)), ("left", (9, (0,)), []))
        self.assertEqual(keeper.take(0, (2,)), ("left", (0, (2,)), [(2, (1, (1,)))]))
        self.assertEqual(keeper.take(2, (2,)), ("traded", (1, (1,)), [(49, (2, (2,)))]))
        pairs = Keeper(Scheme(table, 2))
        self.assertEqual(pairs.take(1, (1, 2)), ("left", (1, (1, 2)), []))
        self.assertEqual(list(pairs), [])

    def test_equal_worths(self):
        keeper = Keeper(Scheme(Table.plain(4, 2), 1))
        self.assertEqual(keeper.take(2, (3,))[0], "kept")
        self.assertEqual(keeper.take(2, (2,))[0], "kept")
        # The lesser lot ranks before both, so the one that ranks last leaves.
        self.assertEqual(keeper.take(2, (0,))[:2], ("traded", (2, (3,))))
        self.assertEqual(keeper.take(2, (3,))[:2], ("left", (2, (3,))))
        self.assertEqual(list(keeper), [(2, (0,)), (2, (2,))])

    def test_only_what_counts_may_leave(self):
        # Thing 2 is twice thing 0, so thing 1 stays although it ranks last.
        keeper = Keeper(Scheme(Table([[1, 0], [0, 1], [2, 0]], 2), 1), [(5, (0,)), (1, (1,))])
        self.assertEqual(keeper.take(3, (2,)), ("left", (3, (2,)), [(2, (5, (0,)))]))
        self.assertEqual(keeper.take(6, (2,)), ("traded", (5, (0,)), [(49, (6, (2,)))]))
        self.assertEqual(list(keeper), [(6, (2,)), (1, (1,))])

    def test_sizes_at_the_edge(self):
        nothing = Keeper(Scheme(Table.plain(4, 2), 0))
        self.assertEqual(nothing.take(3, ()), ("kept", None, []))
        self.assertEqual(nothing.take(2, ()), ("left", (2, ()), [(1, (3, ()))]))
        self.assertEqual(nothing.take(10 ** 30, ()), ("traded", (3, ()), [(1, (10 ** 30, ()))]))
        whole = Keeper(Scheme(Table.plain(3, 2), 2))
        self.assertEqual(whole.take(-1, (0, 1)), ("kept", None, []))
        self.assertEqual(whole.take(-2, (0, 2)), ("left", (-2, (0, 2)), [(2, (-1, (0, 1)))]))
        self.assertEqual(whole.first(()), (-1, (0, 1)))

    def test_drawn(self):
        """Compare each deed with the kept lists before and after it; a paper over a list is unique."""
        draw = random.Random(52)
        words = []
        for _ in range(250):
            drawn = draw_scheme(draw)
            keeper = Keeper(drawn.scheme)
            taken = []
            for item in drawn.items(draw, 14, 2):
                before = drawn.kept(taken)
                self.assertEqual(list(keeper), before)
                taken.append(item)
                after = drawn.kept(taken)
                deed = keeper.take(*item)
                word, other, entries = deed
                words.append(word)
                self.assertIs(type(deed), tuple)
                gone = [one for one in before if one not in after]
                if len(after) > len(before):
                    self.assertEqual(deed, ("kept", None, []))
                elif gone:
                    self.assertEqual((word, [other]), ("traded", gone))
                    self.assertTrue(drawn.is_paper_over(after, other, entries))
                else:
                    self.assertEqual((word, other), ("left", item))
                    self.assertTrue(drawn.is_paper_over(after, item, entries))
                    if item in before:
                        self.assertEqual(entries, [(1, item)])
            self.assertEqual(list(keeper), drawn.kept(taken))
        for word in ("kept", "traded", "left"):
            self.assertGreater(words.count(word), 100)

    def test_a_deed_depends_on_the_list_alone(self):
        draw = random.Random(53)
        for _ in range(60):
            drawn = draw_scheme(draw)
            items = drawn.items(draw, 8)
            keeper = Keeper(drawn.scheme, items)
            for item in drawn.items(draw, 4):
                listed = list(keeper)
                draw.shuffle(listed)
                self.assertEqual(Keeper(drawn.scheme, listed).take(*item), keeper.copy().take(*item))
                keeper.take(*item)


class Lists(slow.Case):
    def test_edges(self):
        for items in ([], ()):
            keeper = Keeper(small(), items)
            self.assertEqual((list(keeper), len(keeper), keeper.bound, keeper.room), ([], 0, 2, 2))
            self.assertIsNone(keeper.first(()))
            self.assertIsNone(keeper.first((1,)))
            self.assertEqual(keeper.take_all(), [])
            self.assertNotIn((1, (0,)), keeper)
            self.assertEqual(keeper.trial([]), [])
            self.assertEqual(list(keeper | keeper), [])

    def test_created_with_items(self):
        draw = random.Random(54)
        for _ in range(100):
            drawn = draw_scheme(draw)
            items = drawn.items(draw)
            copy = list(items)
            slowly = Keeper(drawn.scheme)
            for item in items:
                slowly.take(*item)
            for given in (items, tuple(items)):
                keeper = Keeper(drawn.scheme, given)
                self.assertIs(keeper.scheme, drawn.scheme)
                self.assertEqual(list(keeper), list(slowly))
            # The next deeds are the same, too.
            for item in drawn.items(draw, 4):
                self.assertEqual(keeper.take(*item), slowly.take(*item))
            self.assertEqual(items, copy)

    def test_any_order_and_however_often(self):
        draw = random.Random(55)
        for _ in range(100):
            drawn = draw_scheme(draw)
            items = drawn.items(draw)
            told = drawn.kept(items)
            self.assertEqual(kept_list(drawn.scheme, items), told)
            for _ in range(4):
                stream = items + draw.choices(items, k=3) if items else []
                draw.shuffle(stream)
                keeper = Keeper(drawn.scheme)
                keeper.take_all(*stream)
                self.assertEqual(list(keeper), told)
                self.assertEqual(len(keeper), len(told))

    def test_all_orders_of_some_items(self):
        items = [(5, (0, 1)), (5, (0, 2)), (4, (1, 3)), (3, (2, 3)), (3, (0, 1))]
        for scheme in (
            Scheme(Table.plain(4, 3), 2), Scheme(Table([[1, 0], [0, 1], [1, 1], [0, 0]], 2), 2), Roots([5, 0, 2, -1], 2, 1),
        ):
            for stream in itertools.permutations(items):
                keeper = Keeper(scheme)
                for worth, lot in stream:
                    keeper.take(worth, lot)
                self.assertEqual(list(keeper), kept_list(scheme, items))

    def test_iterating_and_membership(self):
        keeper = Keeper(small(), [(1, (1,)), (5, (0,)), (3, (2,))])
        self.assertEqual([item for item in keeper], [(5, (0,)), (3, (2,))])
        self.assertEqual([item for item in keeper], [(5, (0,)), (3, (2,))])
        self.assertIs((5, (0,)) in keeper, True)
        for item in ((1, (1,)), (4, (0,)), (5, (1,)), (5, ()), (5, (0, 1))):
            self.assertIs(item in keeper, False)

    def test_first(self):
        draw = random.Random(56)
        for _ in range(80):
            drawn = draw_scheme(draw)
            items = drawn.items(draw)
            keeper = Keeper(drawn.scheme)
            keeper.take_all(*items)
            for ask in drawn.asks:
                told = drawn.first(items, ask)
                self.assertEqual(keeper.first(ask), told)
                self.assertEqual(first_fit(drawn.scheme, list(keeper), ask), told)
            for ask in drawn.bad_asks():
                self.refuse(BadAsk, {"ask": ask}, keeper.first, ask)

    def test_bound_and_room(self):
        draw = random.Random(57)
        for _ in range(60):
            drawn = draw_scheme(draw)
            keeper = Keeper(drawn.scheme)
            for item in drawn.items(draw):
                keeper.take(*item)
                self.assertEqual((keeper.bound, keeper.room), (drawn.scheme.width, drawn.scheme.width - len(keeper)))
                self.assertGreaterEqual(keeper.room, 0)

    def test_no_room(self):
        draw = random.Random(58)
        for columns in range(7):
            for size in range(columns + 1):
                things = tuple(range(columns))
                scheme = Scheme(Table.plain(columns, columns), size)
                items = [(draw.randint(-5, 5), lot) for lot in itertools.combinations(things, size)]
                draw.shuffle(items)
                keeper = Keeper(scheme)
                keeper.take_all(*items)
                self.assertEqual((keeper.room, keeper.bound, len(keeper)), (0, len(items), len(items)))
                for item in items:
                    self.assertEqual(keeper.first(tuple([k for k in things if k not in item[1]])), item)

    def test_properties_of_kinds(self):
        kinds = Kinds([Table.plain(3, 2), Table.plain(3, 2)], [1, 1])
        keeper = Keeper(kinds, [(1, (0, 3))])
        self.assertEqual((keeper.bound, keeper.room), (4, 3))

    def test_great_stream(self):
        draw = random.Random(59)
        scheme = Scheme(Table.plain(12, 6), 3)
        items = slow.draw_items(draw, 200, 12, 3, 1000)
        keeper = Keeper(scheme)
        deeds = keeper.take_all(*items)
        self.assertEqual(len(deeds), 200)
        self.assertEqual(list(keeper), kept_list(scheme, items))
        self.assertEqual((len(keeper), keeper.room), (20, 0))


class Unions(slow.Case):
    def test_ordinary(self):
        scheme = small()
        left = Keeper(scheme, [(5, (0,)), (1, (1,))])
        right = Keeper(scheme, [(3, (2,)), (2, (1,))])
        both = left | right
        self.assertEqual(list(both), [(5, (0,)), (3, (2,))])
        self.assertIs(type(both), Keeper)
        self.assertIs(both.scheme, scheme)
        self.assertEqual(list(left), [(5, (0,)), (1, (1,))])
        self.assertEqual(list(right), [(3, (2,)), (2, (1,))])
        both.take(9, (1,))
        self.assertEqual((list(left), list(right)), ([(5, (0,)), (1, (1,))], [(3, (2,)), (2, (1,))]))
        left.take(8, (2,))
        right.take(8, (2,))
        self.assertEqual(list(both), [(9, (1,)), (5, (0,))])

    def test_drawn(self):
        draw = random.Random(60)
        for _ in range(100):
            drawn = draw_scheme(draw)
            items, others = drawn.items(draw, 8), drawn.items(draw, 8)
            left, right = Keeper(drawn.scheme, items), Keeper(drawn.scheme, others)
            before = list(left), list(right)
            told = drawn.kept(items + others)
            self.assertEqual(list(left | right), told)
            self.assertEqual(list(right | left), told)
            self.assertEqual(list(left | left), list(left))
            self.assertEqual((list(left), list(right)), before)
            both = left | right
            again = Keeper(drawn.scheme, items + others)
            for item in drawn.items(draw, 4):
                self.assertEqual(both.take(*item), again.take(*item))
            self.assertEqual((list(left), list(right)), before)


class CopiesAndTrials(slow.Case):
    def test_copy(self):
        keeper = Keeper(small(), [(5, (0,)), (1, (1,))])
        copy = keeper.copy()
        self.assertIs(type(copy), Keeper)
        self.assertIsNot(copy, keeper)
        self.assertIs(copy.scheme, keeper.scheme)
        self.assertEqual(list(copy), list(keeper))
        copy.take(3, (2,))
        self.assertEqual(list(keeper), [(5, (0,)), (1, (1,))])
        keeper.take(9, (2,))
        self.assertEqual(list(copy), [(5, (0,)), (3, (2,))])
        self.assertEqual(list(keeper), [(9, (2,)), (5, (0,))])

    def test_trial(self):
        keeper = Keeper(small(), [(5, (0,)), (1, (1,))])
        self.assertEqual(keeper.trial([(3, (2,))]), [(5, (0,)), (3, (2,))])
        self.assertEqual(keeper.trial(((3, (2,)), (9, (1,)))), [(9, (1,)), (5, (0,))])
        self.assertEqual(keeper.trial(()), [(5, (0,)), (1, (1,))])
        self.assertEqual(list(keeper), [(5, (0,)), (1, (1,))])

    def test_drawn(self):
        draw = random.Random(61)
        for _ in range(100):
            drawn = draw_scheme(draw)
            items, others = drawn.items(draw, 8), drawn.items(draw, 8)
            keeper = Keeper(drawn.scheme, items)
            before = list(keeper)
            self.assertEqual(keeper.trial(others), drawn.kept(items + others))
            self.assertEqual(keeper.trial(tuple(others)), drawn.kept(items + others))
            self.assertEqual(list(keeper), before)
            again = keeper.copy()
            for item in others:
                self.assertEqual(keeper.take(*item), again.take(*item))


class Refusals(slow.Case):
    def test_bad_lots(self):
        draw = random.Random(62)
        for _ in range(60):
            drawn = draw_scheme(draw)
            items = drawn.items(draw, 5)
            keeper = Keeper(drawn.scheme, items)
            before = list(keeper)
            bad = drawn.bad_lots()
            for lot in bad:
                self.refuse(BadLot, {"lot": lot}, keeper.take, 10 ** 6, lot)
                for at in range(len(items) + 1):
                    # The dearest items would change the list, and the second bad lot comes too late.
                    better = [(10 ** 5 + worth, own) for worth, own in items]
                    stream = better[:at] + [(7, lot)] + better[at:] + [(8, bad[0])]
                    copy = list(stream)
                    self.refuse(BadLot, {"lot": lot}, keeper.take_all, *stream)
                    self.refuse(BadLot, {"lot": lot}, keeper.trial, stream)
                    self.refuse(BadLot, {"lot": lot}, keeper.trial, tuple(stream))
                    self.refuse(BadLot, {"lot": lot}, Keeper, drawn.scheme, stream)
                    self.assertEqual(stream, copy)
                self.assertEqual(list(keeper), before)
                self.assertEqual(len(keeper), len(before))
            again = Keeper(drawn.scheme, items)
            for item in drawn.items(draw, 5):
                self.assertEqual(keeper.take(*item), again.take(*item))

    def test_ordinary(self):
        keeper = Keeper(small(), [(1, (0,))])
        for lot in ((), (0, 1), (3,), (-1,), (10 ** 30,)):
            self.refuse(BadLot, {"lot": lot}, keeper.take, 5, lot)
        for ask in ((0, 1), (3,), (-1,), (1, 0)):
            self.refuse(BadAsk, {"ask": ask}, keeper.first, ask)
        self.assertEqual(list(keeper), [(1, (0,))])


class NewLists(slow.Case):
    def test_deeds(self):
        keeper = Keeper(small(), [(5, (0,)), (1, (1,))])
        again = keeper.copy()
        for item in ((3, (2,)), (3, (2,)), (1, (1,)), (7, (1,))):
            deed = keeper.take(*item)
            self.assertEqual(deed, again.take(*item))
            deed[2].clear()
            deed[2].append((1, item))
        self.assertEqual(list(keeper), list(again))

    def test_lists(self):
        items = [(5, (0,)), (1, (1,))]
        keeper = Keeper(small(), items)
        items.append((9, (2,)))
        items[0] = (0, (2,))
        self.assertEqual(list(keeper), [(5, (0,)), (1, (1,))])
        keeper.trial([(3, (2,))]).clear()
        deeds = keeper.take_all((3, (2,)), (2, (2,)))
        self.assertEqual([deed[0] for deed in deeds], ["traded", "left"])
        deeds.clear()
        self.assertEqual(list(keeper), [(5, (0,)), (3, (2,))])

    def test_lists_of_a_trial(self):
        items = [(3, (2,)), (2, (2,))]
        keeper = Keeper(small(), [(5, (0,))])
        keeper.trial(items)
        keeper.take_all(*items)
        self.assertEqual(items, [(3, (2,)), (2, (2,))])


class Papers(slow.Case):
    def test_each_item_has_one_paper_over_the_kept_list(self):
        draw = random.Random(63)
        table = Table([[1, 0], [0, 1], [1, 1], [1, 96]], 2)
        drawn = Drawn(Scheme(table, 1), [(0,), (1,), (2,), (3,)], [])
        for _ in range(4):
            items = drawn.items(draw, 6)
            kept = drawn.kept(items)
            for item in items:
                found = []
                for numbers in itertools.product(range(97), repeat=len(kept)):
                    entries = [(number, one) for number, one in zip(numbers, kept) if number]
                    if drawn.is_paper_over(kept, item, entries):
                        found.append(entries)
                self.assertEqual(len(found), 1)
                self.assertEqual(Keeper(drawn.scheme, kept).take(*item), ("left", item, found[0]))
