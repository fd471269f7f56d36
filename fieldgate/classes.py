"""Places that are made one with one another, by and by (point 10)."""


# Each place hangs on another one or on itself; places are one where the ends of their ways are.
class Classes:
    def __init__(self):
        self.hangs_on = []

    def new(self):
        place = len(self.hangs_on)
        self.hangs_on.append(place)
        return place

    # The place that stands for all that are one with a place, until more of them are made one.
    def stand_in(self, place):
        while self.hangs_on[place] != place:
            # Hung one step further up on the way, so that no way stays long.
            self.hangs_on[place] = self.hangs_on[self.hangs_on[place]]
            place = self.hangs_on[place]
        return place

    def one(self, place, other):
        self.hangs_on[self.stand_in(place)] = self.stand_in(other)

    def same(self, place, other):
        return self.stand_in(place) == self.stand_in(other)
