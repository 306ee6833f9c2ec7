"""Points [102] to [110]."""

import random

from fewserve.errors import BadAsk, BadDeed, BadLot, BadText, ServeError
from fewserve.houses import Houses
from fewserve.kinds import Kinds
from fewserve.logs import compacted, format_line, recover
from fewserve.schemes import Scheme
from fewserve.tables import Table
from tests import slow
from tests.drawn import draw_scheme


def small():
    return Scheme(Table.plain(3, 2), 1)


def state(houses):
    """Return all that can be read of the houses."""
    found = [houses.letters, len(houses)]
    for house in range(len(houses)):
        up = houses.is_up(house)
        found.append((up, houses.log(house), houses.kept(house) if up else None))
    return found


class Model:
    """The houses by their definition: each log is a list of lines with what they stand for."""

    def __init__(self, drawn, count):
        self.drawn = drawn
        self.up = [True] * count
        self.lines = [[] for _ in range(count)]
        self.torn = [""] * count
        self.settled = [0] * count
        self.letters = []

    def log(self, house):
        return "".join(line + "\n" for line, _ in self.lines[house]) + self.torn[house]

    def heard(self, house):
        return list(dict.fromkeys(item for _, items in self.lines[house] for item in items))

    def kept(self, house):
        return self.drawn.kept(self.heard(house))

    def take(self, house, item):
        self.lines[house].append((format_line([item]), [item]))

    def send(self, house):
        self.letters.append((self.kept(house), self.heard(house)))
        return len(self.letters) - 1

    def deliver(self, house, letter):
        listed, heard = self.letters[letter]
        self.lines[house].append((format_line(listed), heard))

    def compact(self, house):
        self.lines[house] = [(format_line(self.kept(house)), self.heard(house))]
        self.settle(house)

    def settle(self, house):
        self.settled[house] = len(self.log(house))

    def crash(self, house, lost):
        log = self.log(house)
        log = log[:max(len(log) - lost, self.settled[house])]
        whole = log.count("\n")
        self.lines[house] = self.lines[house][:whole]
        self.torn[house] = log[len(self.log(house)):]
        self.up[house] = False

    def rise(self, house):
        self.torn[house] = ""
        self.up[house] = True

    def exchange(self):
        present = [house for house, up in enumerate(self.up) if up]
        letters = [self.send(house) for house in present]
        for house in present:
            for letter in letters:
                self.deliver(house, letter)
        return letters

    def state(self):
        found = [len(self.letters), len(self.up)]
        for house, up in enumerate(self.up):
            found.append((up, self.log(house), self.kept(house) if up else None))
        return found


class Writing(slow.Case):
    def test_new_houses(self):
        scheme = small()
        houses = Houses(scheme, 2)
        self.assertIs(houses.scheme, scheme)
        self.assertEqual(state(houses), [0, 2, (True, "", []), (True, "", [])])

    def test_take(self):
        houses = Houses(small(), 2)
        self.assertIsNone(houses.take(0, 1, (1,)))
        houses.take(0, -3, (0,))
        houses.take(0, 5, (2,))
        houses.take(0, 5, (2,))
        self.assertEqual(houses.log(0), "1: 1\n-3: 0\n5: 2\n5: 2\n")
        self.assertEqual(houses.kept(0), [(5, (2,)), (1, (1,))])
        self.assertEqual((houses.log(1), houses.kept(1)), ("", []))
        self.assertEqual([houses.answer(0, ask) for ask in ((), (0,), (1,), (2,))],
                         [(5, (2,)), (5, (2,)), (5, (2,)), (1, (1,))])
        self.assertIsNone(houses.answer(1, ()))

    def test_worths_at_the_edge(self):
        houses = Houses(small(), 1)
        houses.take(0, 1000000, (0,))
        houses.take(0, -1000000, (1,))
        told = state(houses)
        for worth, line in (
            (1000001, "1000001: 2"), (-1000001, "-1000001: 2"), (10 ** 30, "1" + "0" * 30 + ": 2"),
            (-(10 ** 5000), "-1" + "0" * 5000 + ": 2"),
        ):
            self.refuse(BadText, {"line": line}, houses.take, 0, worth, (2,))
            self.refuse(BadLot, {"lot": (3,)}, houses.take, 0, worth, (3,))
            self.refuse(BadDeed, {"deed": 1}, houses.take, 1, worth, (3,))
        self.assertEqual(state(houses), told)
        self.assertEqual(houses.log(0), "1000000: 0\n-1000000: 1\n")

    def test_letters(self):
        houses = Houses(small(), 3)
        self.assertEqual(houses.send(2), 0)
        houses.take(0, 5, (0,))
        self.assertEqual(houses.send(0), 1)
        houses.take(0, 7, (1,))
        self.assertEqual((houses.send(0), houses.letters), (2, 3))
        self.assertIsNone(houses.deliver(1, 0))
        self.assertEqual((houses.log(1), houses.kept(1)), ("\n", []))
        houses.deliver(1, 2)
        self.assertEqual((houses.log(1), houses.kept(1)), ("\n7: 1;5: 0\n", [(7, (1,)), (5, (0,))]))
        houses.deliver(1, 2)
        self.assertEqual((houses.log(1), houses.kept(1)), ("\n7: 1;5: 0\n7: 1;5: 0\n", [(7, (1,)), (5, (0,))]))
        houses.deliver(0, 1)
        self.assertEqual((houses.log(0), houses.kept(0)), ("5: 0\n7: 1\n5: 0\n", [(7, (1,)), (5, (0,))]))
        self.assertEqual(houses.letters, 3)

    def test_a_late_letter_of_a_house_that_crashed(self):
        houses = Houses(small(), 2)
        houses.take(0, 5, (0,))
        houses.send(0)
        houses.crash(0, 100)
        houses.deliver(1, 0)
        self.assertEqual(houses.kept(1), [(5, (0,))])
        self.refuse(BadDeed, {"deed": 0}, houses.deliver, 0, 0)
        houses.rise(0)
        self.assertEqual((houses.kept(0), houses.log(0)), ([], ""))
        houses.deliver(0, 0)
        self.assertEqual((houses.kept(0), houses.log(0)), ([(5, (0,))], "5: 0\n"))

    def test_exchange(self):
        houses = Houses(small(), 4)
        houses.take(0, 5, (0,))
        houses.take(1, 3, (1,))
        houses.take(2, 9, (2,))
        houses.take(3, 1, (1,))
        houses.send(2)
        houses.crash(2)
        self.assertEqual(houses.exchange(), [1, 2, 3])
        self.assertEqual(houses.letters, 4)
        for house, own in ((0, "5: 0"), (1, "3: 1"), (3, "1: 1")):
            self.assertEqual(houses.log(house), own + "\n5: 0\n3: 1\n1: 1\n")
            self.assertEqual(houses.kept(house), [(5, (0,)), (3, (1,))])
        self.assertEqual((houses.log(2), houses.is_up(2)), ("9: 2\n", False))

    def test_exchanges_of_none_and_of_one(self):
        nobody = Houses(small(), 0)
        self.assertEqual((nobody.exchange(), nobody.letters, len(nobody)), ([], 0, 0))
        alone = Houses(small(), 1)
        alone.take(0, 5, (0,))
        self.assertEqual((alone.exchange(), alone.log(0), alone.letters), ([0], "5: 0\n5: 0\n", 1))
        alone.crash(0)
        self.assertEqual((alone.exchange(), alone.letters), ([], 1))


class Crashing(slow.Case):
    def test_lost(self):
        for lost, log, few in (
            (0, "5: 0\n3: 1\n", [(5, (0,)), (3, (1,))]),
            (1, "5: 0\n3: 1", [(5, (0,))]),
            (4, "5: 0\n3", [(5, (0,))]),
            (5, "5: 0\n", [(5, (0,))]),
            (6, "5: 0", []),
            (9, "5", []),
            (10, "", []),
            (11, "", []),
            (10 ** 30, "", []),
        ):
            houses = Houses(small(), 1)
            houses.take(0, 5, (0,))
            houses.take(0, 3, (1,))
            self.assertIsNone(houses.crash(0, lost))
            self.assertEqual((houses.is_up(0), houses.log(0)), (False, log))
            self.assertIsNone(houses.rise(0))
            self.assertEqual((houses.is_up(0), houses.kept(0)), (True, few))
            self.assertEqual(houses.log(0), log[:log.rfind("\n") + 1])

    def test_nothing_is_lost_unless_it_is_said(self):
        houses = Houses(small(), 1)
        houses.take(0, 5, (0,))
        houses.crash(0)
        self.assertEqual(houses.log(0), "5: 0\n")
        houses.rise(0)
        houses.crash(0, lost=1)
        self.assertEqual(houses.log(0), "5: 0")

    def test_settled(self):
        for lost, log in ((0, "5: 0\n3: 1\n"), (1, "5: 0\n3: 1"), (4, "5: 0\n3"), (5, "5: 0\n"), (6, "5: 0\n"), (99, "5: 0\n")):
            houses = Houses(small(), 1)
            houses.take(0, 5, (0,))
            self.assertIsNone(houses.settle(0))
            houses.take(0, 3, (1,))
            houses.crash(0, lost)
            self.assertEqual(houses.log(0), log)
            houses.rise(0)
            # What was settled stays settled, and nothing else is.
            houses.crash(0, 99)
            self.assertEqual(houses.log(0), "5: 0\n")

    def test_compacted(self):
        houses = Houses(small(), 1)
        for worth, lot in ((1, (1,)), (5, (0,)), (3, (2,))):
            houses.take(0, worth, lot)
        houses.settle(0)
        self.assertIsNone(houses.compact(0))
        self.assertEqual((houses.log(0), houses.kept(0)), ("5: 0;3: 2\n", [(5, (0,)), (3, (2,))]))
        houses.take(0, 9, (1,))
        self.assertEqual((houses.log(0), houses.kept(0)), ("5: 0;3: 2\n9: 1\n", [(9, (1,)), (5, (0,))]))
        houses.crash(0, 99)
        self.assertEqual(houses.log(0), "5: 0;3: 2\n")
        houses.rise(0)
        self.assertEqual(houses.kept(0), [(5, (0,)), (3, (2,))])
        houses.compact(0)
        self.assertEqual(houses.log(0), "5: 0;3: 2\n")

    def test_a_compacted_log_may_be_longer_or_shorter_than_what_was_settled(self):
        houses = Houses(small(), 1)
        houses.compact(0)
        self.assertEqual(houses.log(0), "\n")
        houses.crash(0, 1)
        self.assertEqual(houses.log(0), "\n")
        houses.rise(0)
        for _ in range(3):
            houses.take(0, 5, (0,))
        houses.settle(0)
        houses.compact(0)
        self.assertEqual(houses.log(0), "5: 0\n")
        houses.take(0, 5, (0,))
        houses.crash(0, 3)
        self.assertEqual(houses.log(0), "5: 0\n5:")


class Refusing(slow.Case):
    def calls(self, houses, house):
        """Return the calls that a house that is down refuses, and then rise."""
        return [
            (houses.take, house, 5, (0,)), (houses.take, house, 10 ** 30, (9,)), (houses.send, house),
            (houses.deliver, house, 0), (houses.deliver, house, 99), (houses.settle, house), (houses.compact, house),
            (houses.crash, house), (houses.crash, house, 3), (houses.kept, house), (houses.answer, house, ()),
            (houses.answer, house, (0, 1)),
        ]

    def test_no_such_house(self):
        for count in (0, 1, 6):
            houses = Houses(small(), count)
            if count:
                houses.take(0, 5, (0,))
                houses.send(0)
            told = state(houses)
            for house in (-1, count, count + 1, 10 ** 30, -count - 1):
                calls = self.calls(houses, house)
                for call, *args in calls + [(houses.rise, house), (houses.log, house), (houses.is_up, house)]:
                    self.refuse(BadDeed, {"deed": house}, call, *args)
            self.assertEqual(state(houses), told)
        self.assertEqual(BadDeed.__bases__, (ServeError,))

    def test_down_and_up(self):
        houses = Houses(small(), 2)
        houses.take(1, 5, (0,))
        houses.send(1)
        houses.crash(1, 1)
        told = state(houses)
        for call, *args in self.calls(houses, 1):
            self.refuse(BadDeed, {"deed": 1}, call, *args)
        self.refuse(BadDeed, {"deed": 0}, houses.rise, 0)
        self.assertEqual(state(houses), told)
        houses.rise(1)
        self.refuse(BadDeed, {"deed": 1}, houses.rise, 1)

    def test_no_such_letter(self):
        houses = Houses(small(), 2)
        self.refuse(BadDeed, {"deed": 0}, houses.deliver, 1, 0)
        houses.send(0)
        houses.send(0)
        for letter in (-1, 2, -2, 10 ** 30):
            self.refuse(BadDeed, {"deed": letter}, houses.deliver, 1, letter)
        houses.crash(1)
        self.refuse(BadDeed, {"deed": 1}, houses.deliver, 1, 7)
        self.assertEqual(state(houses), [2, 2, (True, "", []), (False, "", None)])

    def test_lots_and_asks(self):
        kinds = Kinds([Table.plain(2, 1), Table.plain(2, 2)], [1, 1])
        houses = Houses(kinds, 1)
        houses.take(0, 4, (1, 2))
        told = state(houses)
        for lot in ((0, 1), (2, 3), (0,), (), (2, 0), (0, 4)):
            self.refuse(BadLot, {"lot": lot}, houses.take, 0, 5, lot)
        for ask in ((0,), (2, 3), (4,), (-1,), (3, 2)):
            self.refuse(BadAsk, {"ask": ask}, houses.answer, 0, ask)
        self.assertEqual((houses.answer(0, (2,)), houses.answer(0, (3,))), (None, (4, (1, 2))))
        self.assertEqual(state(houses), told)

    def test_returned_lists_are_new(self):
        houses = Houses(small(), 2)
        houses.take(0, 5, (0,))
        houses.send(0)
        houses.kept(0).clear()
        houses.exchange().clear()
        self.assertEqual(houses.kept(0), [(5, (0,))])
        houses.deliver(1, 0)
        houses.kept(1).append((9, (1,)))
        self.assertEqual((houses.kept(0), houses.kept(1)), ([(5, (0,))], [(5, (0,))]))
        houses.take(1, 9, (1,))
        self.assertEqual(houses.kept(0), [(5, (0,))])


class Running(slow.Case):
    def step(self, draw, houses, model, drawn):
        """Do one drawn deed to the houses and to the model."""
        house = draw.randrange(len(houses))
        if not model.up[house]:
            if draw.randrange(3) == 0:
                houses.rise(house)
                model.rise(house)
            return
        deed = draw.randrange(12)
        if deed < 4 and drawn.lots:
            item = (draw.randint(-4, 4), draw.choice(drawn.lots))
            houses.take(house, *item)
            model.take(house, item)
        elif deed < 6:
            self.assertEqual(houses.send(house), model.send(house))
        elif deed < 8 and model.letters:
            letter = draw.randrange(len(model.letters))
            houses.deliver(house, letter)
            model.deliver(house, letter)
        elif deed == 8:
            houses.settle(house)
            model.settle(house)
        elif deed == 9:
            houses.compact(house)
            model.compact(house)
        elif deed == 10:
            lost = draw.choice([0, 1, 2, 5, 20, 1000])
            houses.crash(house, lost)
            model.crash(house, lost)
        else:
            self.assertEqual(houses.exchange(), model.exchange())
            present = [house for house, up in enumerate(model.up) if up]
            self.assertEqual([houses.kept(house) for house in present], [houses.kept(present[0])] * len(present))

    def test_drawn(self):
        draw = random.Random(170)
        for _ in range(60):
            drawn = draw_scheme(draw)
            count = draw.randint(1, 4)
            houses, model = Houses(drawn.scheme, count), Model(drawn, count)
            for _ in range(40):
                self.step(draw, houses, model, drawn)
            self.assertEqual(state(houses), model.state())
            for house in range(count):
                if model.up[house]:
                    self.assertEqual(recover(drawn.scheme, houses.log(house)), houses.kept(house))
                    self.assertEqual(compacted(drawn.scheme, houses.log(house)), format_line(houses.kept(house)) + "\n")
                    for ask in drawn.asks[:20]:
                        self.assertEqual(houses.answer(house, ask), drawn.first(model.heard(house), ask))

    def test_each_state_of_a_run(self):
        draw = random.Random(171)
        for _ in range(10):
            drawn = draw_scheme(draw)
            houses, model = Houses(drawn.scheme, 3), Model(drawn, 3)
            for _ in range(30):
                self.step(draw, houses, model, drawn)
                self.assertEqual(state(houses), model.state())
