"""Plain counts of numbers, tuples (number, how often), and the bounds of ladders looked at by them."""

from sumshare.places import at_most_in, place_in, sum_in
from tests.samples import THIRTY


def at_most_by(numbers, x):
    return sum(many for number, many in numbers if number <= x)


def sum_by(numbers):
    return sum(number * many for number, many in numbers)


def place_by(numbers, place):
    """The so-many-th least, by walking up from the first one."""
    for number, many in sorted(numbers):
        if place <= many:
            return number
        place = place - many
    return None


def ends_of(stretch):
    height, index = stretch
    return index * 2 ** height, index * 2 ** height + 2 ** height - 1


def first_ends(ladder):
    return [(ends_of(stretch)[0], count) for stretch, count in ladder[2]]


def last_ends(ladder):
    return [(ends_of(stretch)[1], count) for stretch, count in ladder[2]]


def dealt(source, ladder):
    """Numbers that are dealt to the stretches as they count, anywhere within them."""
    numbers = []
    for stretch, count in ladder[2]:
        first, last = ends_of(stretch)
        part = source.randrange(count + 1)
        numbers.extend([(source.randint(first, last), part), (source.randint(first, last), count - part)])
    return [(number, many) for number, many in numbers if many > 0]


def some_of(source, values, how_many):
    values = sorted(set(values))
    return values if len(values) <= how_many else source.sample(values, how_many)


def numbers_to_ask(source, ladder):
    around = [end + step for pair in ladder[2] for end in ends_of(pair[0]) for step in (-1, 0, 1)]
    end = 2 ** ladder[1]
    return [-THIRTY, -1, 0, end - 1, end, THIRTY] + some_of(source, around + list(range(end)), 40)


def places_to_ask(source, ladder, numbers):
    """Both ends, and those at which another number begins."""
    reached, around = 0, []
    for number, many in sorted(first_ends(ladder)) + sorted(last_ends(ladder)) + sorted(numbers):
        reached = reached + many
        around.extend([reached % ladder[3], reached % ladder[3] + 1, source.randint(1, ladder[3])])
    return [1, ladder[3]] + some_of(source, [place for place in around if 1 <= place <= ladder[3]], 40)


def check_bounds(test, source, ladder, numbers):
    """That all bounds of the ladder hold for the numbers, tuples (number, how often)."""
    test.assertEqual(ladder[3], sum(many for number, many in numbers))
    for x in numbers_to_ask(source, ladder):
        least, most = at_most_in(ladder, x)
        test.assertLessEqual(least, at_most_by(numbers, x))
        test.assertLessEqual(at_most_by(numbers, x), most)
    least, most = sum_in(ladder)
    test.assertLessEqual(least, sum_by(numbers))
    test.assertLessEqual(sum_by(numbers), most)
    if ladder[3] > 0:
        for place in places_to_ask(source, ladder, numbers):
            low, high = place_in(ladder, place)
            test.assertLessEqual(low, place_by(numbers, place))
            test.assertLessEqual(place_by(numbers, place), high)
