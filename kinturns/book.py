"""Books of kin: persons, their parents, partners and children, and walks from one to others."""

from kinturns.errors import NoParents, NoPerson, TooMany
from kinturns.walks import check_walk, sex_after

MOST_PERSONS = 60


class Book:

    # What a person has stands in each list at the person's number.
    def __init__(self):
        self.sexes = []
        self.fathers = []
        self.mothers = []
        self.partner_lists = []

    def check_person(self, a):
        # Python would take a negative number as a place from a list's end.
        if a < 0 or a >= len(self.sexes):
            raise NoPerson(f"no person of this book: {a}")

    def check_couple(self, man, woman):
        self.check_person(man)
        self.check_person(woman)
        if self.sexes[man] != "man" or self.sexes[woman] != "woman":
            raise NoParents(f"not a man and a woman: {man}, {woman}")

    def check_room(self):
        if len(self.sexes) >= MOST_PERSONS:
            raise TooMany(f"more than {MOST_PERSONS} persons")

    def enter(self, sex, father, mother):
        self.sexes.append(sex)
        self.fathers.append(father)
        self.mothers.append(mother)
        self.partner_lists.append([])
        return len(self.sexes) - 1

    def pair(self, man, woman):
        if woman not in self.partner_lists[man]:
            self.partner_lists[man].append(woman)
            self.partner_lists[woman].append(man)

    def come(self, sex):
        self.check_room()
        return self.enter(sex, None, None)

    def born(self, sex, father, mother):
        self.check_couple(father, mother)
        # Asked ahead of the pairing: who is refused leaves no partners behind.
        self.check_room()
        self.pair(father, mother)
        return self.enter(sex, father, mother)

    def wed(self, man, woman):
        self.check_couple(man, woman)
        self.pair(man, woman)

    def size(self):
        return len(self.sexes)

    def sex_of(self, a):
        self.check_person(a)
        return self.sexes[a]

    def father(self, a):
        self.check_person(a)
        return self.fathers[a]

    def mother(self, a):
        self.check_person(a)
        return self.mothers[a]

    def partners(self, a):
        self.check_person(a)
        return sorted(self.partner_lists[a])

    def children(self, a):
        self.check_person(a)
        return [child for child in range(len(self.sexes)) if a in (self.fathers[child], self.mothers[child])]

    def siblings(self, a):
        # Persons without parents would all seem to share theirs.
        if self.fathers[a] is None:
            return []
        parents = (self.fathers[a], self.mothers[a])
        return [b for b in range(len(self.sexes)) if b != a and (self.fathers[b], self.mothers[b]) == parents]

    def kin_by_letter(self, a, letter):
        if letter == "f" or letter == "m":
            parent = self.fathers[a] if letter == "f" else self.mothers[a]
            return [] if parent is None else [parent]
        if letter == "p":
            return self.partner_lists[a]
        near = self.children(a) if letter == "s" or letter == "d" else self.siblings(a)
        sex = sex_after(self.sexes[a], letter)
        return [b for b in near if self.sexes[b] == sex]

    def kin(self, a, walk):
        self.check_person(a)
        check_walk(walk)
        reached = [a]
        for letter in walk:
            later = {}
            for here in reached:
                for there in self.kin_by_letter(here, letter):
                    later[there] = True
            reached = sorted(later)
        return reached
