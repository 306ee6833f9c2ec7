"""Points [111] and [112]."""

import itertools
import random

from fewserve.errors import BadWeb, ServeError
from fewserve.webs import Web
from tests import slow


def draw_steps(draw, places, chance=2, worths=3):
    """Return drawn steps in a drawn order; there is each step with one chance in so many."""
    steps = []
    for u, v in itertools.permutations(range(places), 2):
        if draw.randrange(chance) == 0:
            steps.append((u, v, draw.randint(-worths, worths)))
    draw.shuffle(steps)
    return steps


def slow_ways(places, steps, count):
    """Return all ways of that many places with their worths, in ascending order."""
    worth_at = {(u, v): worth for u, v, worth in steps}
    found = []
    for way in itertools.permutations(range(places), count) if count > 0 else []:
        pairs = list(zip(way, way[1:]))
        if all(pair in worth_at for pair in pairs):
            found.append((way, sum(worth_at[pair] for pair in pairs)))
    return found


def state(web):
    around = [(web.after(place), web.before(place)) for place in range(web.places)]
    return web.places, web.steps, around


class Webs(slow.Case):
    def test_ordinary(self):
        steps = [(2, 0, 5), (0, 1, -3), (1, 0, 7), (0, 2, 0)]
        web = Web(3, steps)
        self.assertEqual(web.places, 3)
        self.assertEqual(web.steps, [(0, 1, -3), (0, 2, 0), (1, 0, 7), (2, 0, 5)])
        self.assertEqual([web.after(place) for place in range(3)], [[(1, -3), (2, 0)], [(0, 7)], [(0, 5)]])
        self.assertEqual([web.before(place) for place in range(3)], [[(1, 7), (2, 5)], [(0, -3)], [(0, 0)]])
        self.assertEqual((web.worth_of(0, 1), web.worth_of(0, 2), web.worth_of(2, 0)), (-3, 0, 5))
        for u, v in ((1, 2), (2, 1), (0, 0), (3, 0), (0, 3), (-1, 0), (0, -1), (10 ** 30, 1)):
            self.assertIsNone(web.worth_of(u, v))
        self.assertEqual(steps, [(2, 0, 5), (0, 1, -3), (1, 0, 7), (0, 2, 0)])

    def test_edges(self):
        self.assertEqual(Web.MOST_PLACES, 12)
        nowhere = Web(0, [])
        self.assertEqual((state(nowhere), list(nowhere.all_ways(1))), ((0, [], []), []))
        one = Web(1, [])
        self.assertEqual((state(one), list(one.all_ways(1)), one.is_way((0,))), ((1, [], [([], [])]), [(0,)], True))
        great = Web(12, [(u, v, u - v) for u, v in itertools.permutations(range(12), 2)])
        self.assertEqual((len(great.steps), great.worth_of(11, 0)), (132, 11))
        self.assertEqual(great.way_worth(tuple(range(11, -1, -1))), 11)

    def test_wrong(self):
        for places, steps in (
            (-1, []), (13, []), (10 ** 30, []), (-10 ** 30, []), (3, [(0, 3, 1)]), (3, [(3, 0, 1)]), (3, [(-1, 0, 1)]),
            (3, [(0, -1, 1)]), (3, [(1, 1, 1)]), (3, [(0, 1, 1), (1, 0, 1), (0, 1, 1)]), (3, [(0, 1, 1), (0, 1, 2)]),
            (0, [(0, 0, 1)]), (0, [(0, 1, 1)]), (1, [(0, 1, 1)]), (13, [(0, 1, 1)]), (2, [(0, 1, 1), (0, 10 ** 30, 0)]),
        ):
            self.refuse(BadWeb, {}, Web, places, steps)
        self.assertEqual(BadWeb.__bases__, (ServeError,))
        self.assertEqual(len(Web(2, [(0, 1, 1), (1, 0, 1)]).steps), 2)

    def test_turned_round(self):
        web = Web(4, [(3, 1, 2), (0, 1, 5), (1, 0, -5)])
        turned = ~web
        self.assertIs(type(turned), Web)
        self.assertEqual((turned.places, turned.steps), (4, [(0, 1, -5), (1, 0, 5), (1, 3, 2)]))
        self.assertEqual(web.steps, [(0, 1, 5), (1, 0, -5), (3, 1, 2)])
        self.assertEqual((~Web(0, [])).steps, [])
        draw = random.Random(180)
        for _ in range(40):
            places = draw.randint(0, 8)
            steps = draw_steps(draw, places)
            web = Web(places, steps)
            told = state(web)
            self.assertEqual((~web).steps, sorted((v, u, worth) for u, v, worth in steps))
            self.assertEqual(state(~~web), told)
            self.assertEqual(state(web), told)
            for place in range(places):
                self.assertEqual((~web).after(place), web.before(place))

    def test_drawn(self):
        draw = random.Random(181)
        for _ in range(60):
            places = draw.randint(0, 12)
            steps = draw_steps(draw, places)
            before = list(steps)
            web = Web(places, steps)
            self.assertEqual((steps, web.steps), (before, sorted(before)))
            steps.clear()
            for place in range(places):
                self.assertEqual(web.after(place), [(v, worth) for u, v, worth in sorted(before) if u == place])
                self.assertEqual(web.before(place), [(u, worth) for u, v, worth in sorted(before) if v == place])
            for u, v in itertools.product(range(-1, places + 1), repeat=2):
                told = [worth for one, other, worth in before if (one, other) == (u, v)]
                self.assertEqual(web.worth_of(u, v), told[0] if told else None)

    def test_returned_lists_are_new(self):
        steps = [(0, 1, 5)]
        web = Web(2, steps)
        steps[0] = (1, 0, 3)
        steps.append((0, 1, 9))
        web.steps.clear()
        web.after(0).clear()
        web.before(1).append((1, 1))
        self.assertEqual(state(web), (2, [(0, 1, 5)], [([(1, 5)], []), ([], [(0, 5)])]))


class Ways(slow.Case):
    def test_ordinary(self):
        web = Web(4, [(0, 1, 5), (1, 2, -7), (2, 0, 1), (1, 0, 2)])
        for way, worth in (((0,), 0), ((3,), 0), ((0, 1), 5), ((0, 1, 2), -2), ((1, 2, 0), -6), ((2, 0, 1), 6), ((1, 0), 2)):
            self.assertIs(web.is_way(way), True)
            self.assertEqual(web.way_worth(way), worth)
        for way in (
            (), (4,), (-1,), (10 ** 30,), (0, 2), (0, 1, 0), (0, 0), (0, 1, 2, 0), (3, 0), (0, 3), (0, 1, 4), (-1, 0),
            (3, 3), (4, 4), (2, 0, 1, 2), (0, 1, 3),
        ):
            self.assertIs(web.is_way(way), False)
            self.refuse(BadWeb, {}, web.way_worth, way)

    def test_all(self):
        web = Web(4, [(0, 1, 5), (1, 2, -7), (2, 0, 1), (1, 0, 2)])
        self.assertEqual(list(web.all_ways(1)), [(0,), (1,), (2,), (3,)])
        self.assertEqual(list(web.all_ways(2)), [(0, 1), (1, 0), (1, 2), (2, 0)])
        self.assertEqual(list(web.all_ways(3)), [(0, 1, 2), (1, 2, 0), (2, 0, 1)])
        for count in (4, 5, 10 ** 30, 0, -1, -10 ** 30):
            self.assertEqual(list(web.all_ways(count)), [])
        ways = web.all_ways(2)
        self.assertEqual((next(ways), next(ways)), ((0, 1), (1, 0)))

    def test_drawn(self):
        draw = random.Random(182)
        for _ in range(40):
            places = draw.randint(0, 6)
            steps = draw_steps(draw, places)
            web = Web(places, steps)
            for count in range(-1, places + 2):
                told = slow_ways(places, steps, count)
                self.assertEqual(list(web.all_ways(count)), [way for way, _ in told])
                for way, worth in told:
                    self.assertEqual(web.way_worth(way), worth)
            for way in itertools.product(range(-1, places + 1), repeat=3):
                right = way in [one for one, _ in slow_ways(places, steps, 3)]
                self.assertIs(web.is_way(way), right)
