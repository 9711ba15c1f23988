"""Unit steps: literals that are held for 1, and what clauses make of them."""


class Holding:
    """Literals that are held for 1, under clauses.

    A clause of two literals and more is a list of which the first two are watched: when one of them comes to be held
    for 0, the clause is looked at.
    """

    def __init__(self, many):
        """Holds nothing; many is the number of literals."""
        self.held = [False] * many
        # The literals that are held, in order; looked tells how many of them the clauses have been looked at for.
        self.trail = []
        self.looked = 0
        self.watching = {}
        self.clashed = False

    def hold(self, literal):
        """Holds a literal for 1."""
        if self.held[literal ^ 1]:
            self.clashed = True
        elif not self.held[literal]:
            self.held[literal] = True
            self.trail.append(literal)

    def add_clause(self, clause):
        """Adds a clause for good; only while nothing is held that is taken back later."""
        rest = {}
        for literal in clause:
            if self.held[literal]:
                return
            if not self.held[literal ^ 1]:
                rest[literal] = True
        kept = list(rest)
        if len(kept) == 0:
            self.clashed = True
        elif len(kept) == 1:
            self.hold(kept[0])
        else:
            self.watching.setdefault(kept[0], []).append(kept)
            self.watching.setdefault(kept[1], []).append(kept)

    def go_on(self):
        """Does unit steps until there are no more, or until a clash."""
        while self.looked < len(self.trail) and not self.clashed:
            literal = self.trail[self.looked]
            self.looked += 1
            self.look(literal ^ 1)

    def look(self, literal):
        """Looks at the clauses that watch a literal, which has come to be held for 0."""
        staying = []
        clauses = self.watching.pop(literal, [])
        for clause in clauses:
            if clause[0] == literal:
                clause[0] = clause[1]
                clause[1] = literal
            if self.held[clause[0]] or not self.watch_other(clause):
                staying.append(clause)
                self.hold(clause[0])
        self.watching[literal] = staying

    def free_place(self, clause):
        """The place of a literal behind the first two that is not held for 0, None if there is none."""
        for at in range(2, len(clause)):
            if not self.held[clause[at] ^ 1]:
                return at
        return None

    def watch_other(self, clause):
        """Watches another literal in place of the second one; False if all others are held for 0."""
        at = self.free_place(clause)
        if at is None:
            return False
        literal = clause[at]
        clause[at] = clause[1]
        clause[1] = literal
        self.watching.setdefault(literal, []).append(clause)
        return True

    def take_back(self, many):
        """Goes back to the first so many literals that were held, behind which there was no clash."""
        while len(self.trail) > many:
            self.held[self.trail.pop()] = False
        self.looked = many
        self.clashed = False

    def try_literals(self, literals):
        """Whether unit steps come to a clash if some more literals are held; they are taken back."""
        if self.clashed:
            return True
        many = len(self.trail)
        for literal in literals:
            self.hold(literal)
        self.go_on()
        told = self.clashed
        self.take_back(many)
        return told
