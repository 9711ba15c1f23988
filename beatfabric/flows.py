"""Paths from inputs and registers to an and that share no node of low level."""
from beatfabric.nets import first_and, operand_nodes


class Flow:
    """Paths from inputs and registers to a root, of which no two share a node whose level is at most a bound.

    levels has those of all nodes ahead of the root, which do not become less from an operand to its user; the bound
    is not below 0. So the nodes of higher levels are above all others, and paths can share them as they like.
    Paths are looked for from these down. A place is twice a node, plus one for its lower side.
    """

    def __init__(self, net, levels, root, bound):
        self.net = net
        self.first = first_and(net)
        # The nodes that can be shared, each with one of its users among them.
        self.above = {root: None}
        # Pairs of a node directly below these and its user among them.
        self.starts = []
        # The nodes below that paths go through, each with its user on the path.
        self.users = {}
        self.origins = {}
        todo = [root]
        while todo:
            user = todo.pop()
            for node in operand_nodes(net, user):
                if levels[node] <= bound:
                    self.starts.append((node, user))
                elif node not in self.above:
                    self.above[node] = user
                    todo.append(node)

    def moves(self, place):
        """The places to which one more path, or the undoing of a part of one, can go on from a place."""
        node = place // 2
        if place & 1:
            undone = [place - 1] if node in self.users else []
            return [2 * operand for operand in operand_nodes(self.net, node)] + undone
        if node not in self.users:
            return [place + 1]
        user = self.users[node]
        return [] if user in self.above else [2 * user + 1]

    def search(self):
        """The lower side of the input or register at which one more path begins, None if there is none."""
        self.origins = {2 * node: 2 * user + 1 for node, user in self.starts}
        todo = list(self.origins)
        while todo:
            place = todo.pop()
            if place & 1 and place // 2 < self.first:
                return place
            for other in self.moves(place):
                if other not in self.origins:
                    self.origins[other] = place
                    todo.append(other)
        return None

    def grow(self):
        """Adds one more path; False if there is none."""
        place = self.search()
        if place is None:
            return False
        while place in self.origins:
            origin = self.origins[place]
            if origin == place + 1:
                self.users.pop(place // 2)
            elif place & 1 == 0:
                self.users[place // 2] = origin // 2
            place = origin
        return True

    def grow_to(self, many):
        """Whether there are so many paths."""
        for _ in range(many):
            if not self.grow():
                return False
        return True

    def cut(self):
        """The nodes nearest to the root that all paths go through, ascending; behind a search that found none."""
        return sorted([place // 2 for place in self.origins if place & 1 == 0 and place + 1 not in self.origins])

    def path_from(self, node):
        """The path that begins with an input or register."""
        path = [node]
        while path[-1] in self.users:
            path.append(self.users[path[-1]])
        while self.above[path[-1]] is not None:
            path.append(self.above[path[-1]])
        return tuple(path)

    def paths(self):
        """All paths that were added, each from an input or register to the root, ascending."""
        return tuple([self.path_from(node) for node in sorted(self.users) if node < self.first])
