"""The pairing of the served sides, the ups and downs that show it to be least, and the bound."""

from kerb.reach import length_all, served
from kerb.towns import sides_of
from kerb.ways import prices_from


def pairing(town):
    sides = served(town)
    pairs = Pairs([prices_to(town, side, sides) for side in sides])
    for one in range(len(sides)):
        pairs.take_in(one)
    return ([sides[other] for other in pairs.behind], pairs.ups, pairs.downs)


# Each side has its up and its down once in the pairing, so all of them together are the pairing's price.
def bound(town):
    told = pairing(town)
    return length_all(town, told[0]) + sum(told[1]) + sum(told[2])


# Between served sides there is always a way, so none of these is None.
def prices_to(town, side, others):
    prices = dict(zip(sides_of(town), prices_from(town, side)))
    return [prices[other] for other in others]


# Pairs numbers, taken in one by one, at least price. At each time
# an up and a down come to no more than the price between, and to just that where paired.
class Pairs:
    def __init__(self, prices):
        self.prices = prices
        self.ups = [0 for row in prices]
        self.downs = [0 for row in prices]
        self.behind = [None for row in prices]
        self.ahead = [None for row in prices]

    def take_in(self, one):
        come = self.come_from(one)
        last = list(come)[-1]
        self.level(one, come, come[last][0])
        self.pair_back(come, last)

    # By how much the price lies above the up and the down.
    def gap(self, one, other):
        return self.prices[one][other] - self.ups[one] - self.downs[other]

    # From one, by the least sum of gaps, to others, and from each to the one that it is behind so far,
    # until one is come to that is behind none. Told are those come to, in that order,
    # each with its sum and the one it is come to from.
    def come_from(self, one):
        come = {}
        near = {}
        for other in range(len(self.prices)):
            near[other] = (self.gap(one, other), one)
        while True:
            nearest = min(near, key=lambda each: near[each][0])
            come[nearest] = near.pop(nearest)
            following = self.ahead[nearest]
            if following is None:
                return come
            for other in list(near):
                far = come[nearest][0] + self.gap(following, other)
                if far < near[other][0]:
                    near[other] = (far, following)

    # Takes away the gaps on the way to the last one, so that it can be paired along there; none falls below 0,
    # since none of those come to was come to by a greater sum.
    def level(self, one, come, far):
        self.ups[one] += far
        for other in come:
            rest = far - come[other][0]
            self.downs[other] -= rest
            if self.ahead[other] is not None:
                self.ups[self.ahead[other]] += rest

    def pair_back(self, come, last):
        other = last
        while other is not None:
            one = come[other][1]
            left = self.behind[one]
            self.behind[one] = other
            self.ahead[other] = one
            other = left
