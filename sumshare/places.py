"""Places: bounds of how many numbers are at most another, of their sum, of the so-many-th least, by a ladder."""

from sumshare.errors import NoPlace
from sumshare.stretches import first_of, last_of


def lowest_places(ladder):
    """A list of tuples (number, count), with all that is counted at the first numbers of its stretches."""
    return [(first_of(stretch), count) for stretch, count in ladder[2]]


def highest_places(ladder):
    return [(last_of(stretch), count) for stretch, count in ladder[2]]


def many_at_most(places, x):
    return sum([count for number, count in places if number <= x])


def sum_at(places):
    return sum([number * count for number, count in places])


def number_of_place(places, many):
    """The least number at which so many of all that the places count are reached; they count so many."""
    rising = sorted(places)
    at = 0
    while many > rising[at][1]:
        many = many - rising[at][1]
        at = at + 1
    return rising[at][0]


def at_most_in(ladder, x):
    return (many_at_most(highest_places(ladder), x), many_at_most(lowest_places(ladder), x))


def sum_in(ladder):
    return (sum_at(lowest_places(ladder)), sum_at(highest_places(ladder)))


def place_in(ladder, number):
    if number < 1 or number > ladder[3]:
        raise NoPlace("no such place: below the first or beyond the last")
    return (number_of_place(lowest_places(ladder), number), number_of_place(highest_places(ladder), number))
