"""Trees of questions: leaves and forks, each with the counts of its group."""

from prunepath.errors import NoPlace
from prunepath.questions import says


class Node:
    def __init__(self, counted):
        self.counted = list(counted)

    def at(self, place):
        node = self
        for sign in place:
            node = node.below(sign)
            if node is None:
                raise NoPlace(place)
        return node


class Leaf(Node):
    def below(self, sign):
        return None

    def leaves(self):
        return 1

    def deep(self):
        return 0

    def place_of(self, values):
        return ""

    def places(self):
        return [""]


class Fork(Node):
    def __init__(self, counted, question, yes, no):
        Node.__init__(self, counted)
        self.question = question
        self.yes = yes
        self.no = no
        # Reckoned once: a walk would take one tree that stands at many places each time anew.
        self.leaf_count = yes.leaves() + no.leaves()
        self.depth = 1 + max(yes.deep(), no.deep())

    def below(self, sign):
        if sign == "y":
            return self.yes
        if sign == "n":
            return self.no
        return None

    def leaves(self):
        return self.leaf_count

    def deep(self):
        return self.depth

    def place_of(self, values):
        if says(self.question, values):
            return "y" + self.yes.place_of(values)
        return "n" + self.no.place_of(values)

    def places(self):
        found = []
        waiting = [("", self)]
        while len(waiting) > 0:
            step = waiting.pop()
            if isinstance(step[1], Fork):
                # The last one put in is taken first: no ahead of yes, so the places come out sorted.
                waiting.append((step[0] + "y", step[1].yes))
                waiting.append((step[0] + "n", step[1].no))
            else:
                found.append(step[0])
        return found
