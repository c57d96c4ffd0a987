"""Orders in which some stand ahead of others: rows with envied guests, rankings with better gifts ahead."""


def least_order(ahead):
    """Return the least order, a tuple, of the keys of the dict in which all of ahead[key] stand ahead of the key.

    Keys that wait for a ring are left out of it.
    """
    order = []
    while True:
        ready = [key for key in ahead if key not in order and all([other in order for other in ahead[key]])]
        if not ready:
            return tuple(order)
        order.append(ready[0])


def ring_of(ahead):
    """Return a ring of keys, a tuple, each of which has the next one ahead, or None if there is no ring."""
    order = least_order(ahead)
    left = [key for key in ahead if key not in order]
    if not left:
        return None
    # Each key that is left has another such key ahead, so the way comes back to itself.
    way = []
    key = left[0]
    while key not in way:
        way.append(key)
        key = [other for other in ahead[key] if other in left][0]
    return tuple(way[way.index(key):])


class Orders:
    """All orders of the numbers from 0 on in which all of ahead[number] stand ahead of the number, by their places.

    A set of numbers is a sum of 1 << number for each.
    """

    def __init__(self, ahead):
        self._ahead = [sum([1 << other for other in others]) for others in ahead]
        # All numbers together stand in one way: there is none that could follow.
        self._ways = {(1 << len(ahead)) - 1: 1}

    def followers(self, placed):
        """Return the numbers that may stand next behind the placed ones, in ascending order."""
        return [at for at, ahead in enumerate(self._ahead) if not placed & (1 << at) and (ahead & placed) == ahead]

    def ways(self, placed):
        """Return in how many ways the other numbers may stand behind the placed ones."""
        if placed not in self._ways:
            self._ways[placed] = sum([self.ways(placed | (1 << at)) for at in self.followers(placed)])
        return self._ways[placed]

    def follower(self, placed, place):
        """Return what stands next in the order at this place among those that go on, and its place then."""
        for at in self.followers(placed):
            ways = self.ways(placed | (1 << at))
            if place < ways:
                return at, place
            place -= ways

    def order_at(self, place):
        """Return the order at this place, where there is one: a list."""
        order = []
        placed = 0
        for _ in self._ahead:
            at, place = self.follower(placed, place)
            order.append(at)
            placed = placed | (1 << at)
        return order

    def place_of(self, order):
        """Return the place of one of the orders."""
        place = 0
        placed = 0
        for at in order:
            place += sum([self.ways(placed | (1 << other)) for other in self.followers(placed) if other < at])
            placed = placed | (1 << at)
        return place
