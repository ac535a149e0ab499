"""Rings, the parts of a town, and its round."""

from kerb.pairing import pairing
from kerb.reach import served
from kerb.turns import all_turns_from
from kerb.ways import least_home, least_out, price_in, way_between, way_home, way_out


def can_exchange(town, ring, other):
    return exchange_of(all_turns_from(town), ring, other) is not None


def parts(town):
    turns = all_turns_from(town)
    told = []
    for ring in rings_of(town):
        told = with_ring(turns, told, ring)
    return told


# Each part is gone along as a round of its own, by ways out and home that cost nothing for the part at the yard.
def round_of(town):
    rings = parts(town)
    told = []
    for ring in rings:
        walk = begun_well(town, ring)
        told = told + way_out(town, walk[0]) + walk + way_home(town, walk[-1])
    return (told, rings)


# The rings of the pairing: from each side to the one behind it by a least way, until all is come round.
def rings_of(town):
    sides = served(town)
    behind = dict(zip(sides, pairing(town)[0]))
    rings = []
    for side in sides:
        if side in behind:
            rings.append(ring_from(town, behind, side))
    return rings


# Each side come to is taken out of behind, so that no ring is told twice.
def ring_from(town, behind, side):
    ring = []
    here = side
    while here in behind:
        other = behind.pop(here)
        ring.append(here)
        ring.extend(way_between(town, here, other))
        here = other
    return ring


# No two of the rings can be exchanged. An exchange makes new neighbours, so what comes of it is held against all anew.
def with_ring(turns, rings, ring):
    for place, other in enumerate(rings):
        found = exchange_of(turns, ring, other)
        if found is not None:
            exchanged = begun_at(ring, found[0]) + begun_at(other, found[1])
            return with_ring(turns, rings[:place] + rings[place + 1:], exchanged)
    return rings + [ring]


# The places in the rings of the second neighbours of an exchange, None where there is none.
def exchange_of(turns, ring, other):
    others = places_of_neighbours(other)
    for neighbours, place in places_of_neighbours(ring).items():
        for strangers, other_place in others.items():
            if strangers[1] in turns[neighbours[0]] and neighbours[1] in turns[strangers[0]]:
                return (place, other_place)
    return None


# Long rings go along the same neighbours again and again; one place of each is enough.
def places_of_neighbours(ring):
    places = {}
    for place, side in enumerate(ring):
        places[(ring[place - 1], side)] = place
    return places


def begun_at(ring, place):
    return ring[place:] + ring[:place]


def begun_well(town, ring):
    out = least_out(town)
    home = least_home(town)
    prices = [price_in(out, side) + price_in(home, ring[place - 1]) for place, side in enumerate(ring)]
    return begun_at(ring, prices.index(min(prices)))
