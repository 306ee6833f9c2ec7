"""Webs of places with one-way steps between them, and ways through them."""

from fewserve.errors import BadWeb


class Web:
    """Places and the worths of the steps between them. A web never changes."""

    MOST_PLACES = 12

    def __init__(self, places, steps):
        if not 0 <= places <= Web.MOST_PLACES:
            raise BadWeb("no web has this number of places")
        for u, v, _ in steps:
            if not 0 <= u < places or not 0 <= v < places or u == v:
                raise BadWeb("a step does not lead from a place of the web to another one")
        self.places = places
        # In ascending order of the steps.
        self._worth_at = {(u, v): worth for u, v, worth in sorted(steps)}
        if len(self._worth_at) < len(steps):
            raise BadWeb("two steps lead from the same place to the same place")

    @property
    def steps(self):
        """The steps in ascending order, each with its worth."""
        return [(u, v, worth) for (u, v), worth in self._worth_at.items()]

    def __invert__(self):
        return Web(self.places, [(v, u, worth) for (u, v), worth in self._worth_at.items()])

    def after(self, place):
        """Return the places to which there is a step from the place, each with its worth."""
        return [(v, worth) for (u, v), worth in self._worth_at.items() if u == place]

    def before(self, place):
        """Return the places from which there is a step to the place, each with its worth."""
        return [(u, worth) for (u, v), worth in self._worth_at.items() if v == place]

    def worth_of(self, u, v):
        """Return the worth of the step, or None if there is no such step."""
        return self._worth_at.get((u, v))

    def is_way(self, way):
        """Return True if the tuple of integers is a way of the web."""
        if not way or len(set(way)) < len(way):
            return False
        # The steps of a longer way lead to places of the web only.
        return 0 <= way[0] < self.places and None not in self._step_worths(way)

    def way_worth(self, way):
        """Return the sum of the worths of the steps of the way."""
        if not self.is_way(way):
            raise BadWeb("the tuple is not a way of the web")
        return sum(self._step_worths(way))

    def all_ways(self, count):
        """Yield all ways of exactly that many places, in ascending order."""
        ways = [(place,) for place in range(self.places)]
        while ways and len(ways[0]) < count:
            ways = [way + (v,) for way in ways for v, _ in self.after(way[-1]) if v not in way]
        for way in ways:
            if len(way) == count:
                yield way

    def _step_worths(self, way):
        """Return the worths of the steps of the way, with None for each that does not exist."""
        return [self._worth_at.get(step) for step in zip(way, way[1:])]
