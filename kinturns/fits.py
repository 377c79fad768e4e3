"""Fits: by which classes of its persons a book fits a table."""

from kinturns.walks import walked

# Brothers and sisters hang together through their parents.
LETTERS_THAT_HANG = "fmpsd"


def near_classes(book, table, a, c):
    answer = []
    for letter in LETTERS_THAT_HANG:
        there = walked(table, book.sex_of(a), c, letter)[1]
        answer.extend([(b, there) for b in book.kin(a, letter)])
    return answer


def fitting(book, table, a, c):
    book.check_person(a)
    table.check_class(c)
    classes = [None] * book.size()
    classes[a] = c
    waiting = [a]
    while len(waiting) > 0:
        here = waiting.pop()
        near = near_classes(book, table, here, classes[here])
        for b, there in near:
            if classes[b] is None:
                classes[b] = there
                waiting.append(b)
            if classes[b] != there:
                return None
    return classes


def fits_from(book, table, a):
    tried = [fitting(book, table, a, c) for c in range(table.size())]
    return [classes for classes in tried if classes is not None]


# Those who don't hang together don't hinder each other, so their ways multiply.
def many_ways(book, table):
    ways = 1
    counted = {}
    for a in range(book.size()):
        if a not in counted:
            fits = fits_from(book, table, a)
            if len(fits) == 0:
                return 0
            ways = ways * len(fits)
            for b, c in enumerate(fits[0]):
                if c is not None:
                    counted[b] = True
    return ways
