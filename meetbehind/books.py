"""Books, which tell all that is told and delivered in the rounds of a world."""

from meetbehind.course import Course
from meetbehind.given import given_speakers
from meetbehind.names import show_name
from meetbehind.roads import roads_of


def book(world, *, speakers=None):
    """The right book of a world and speakers: all lent names that are told, and all deliveries, with their rounds."""
    return book_of(Course(roads_of(world), given_speakers(world, speakers)))


def book_of(course):
    """The book of rounds that were done."""
    told = [(course.since[name], name) for name in course.since]
    return (tuple(sorted(told, key=lambda pair: (pair[0], show_name(pair[1])))), tuple(course.rows))


def first_in(book, x, y):
    """The round in which y hears x first, as a book tells it, or None."""
    return min([row[0] for row in book[1] if row[1] == x and row[3] == y], default=None)
