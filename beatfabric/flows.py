"""Paths from inputs and registers to an and that share no node of low level."""
from beatfabric.nets import first_and, operand_nodes


class Flow:
    """Paths from inputs and registers to a root, of which no two share a node whose level is at most a bound.

    levels has those of all nodes ahead of the root; the bound is not below 0. The paths are looked for from the root
    down. A place is twice a node, plus one for its lower side; a node that can be shared has only its lower side.
    """

    def __init__(self, net, levels, root, bound):
        self.net = net
        self.first = first_and(net)
        self.levels = levels
        self.root = root
        self.bound = bound
        # For each node how many paths come to it from each user, and whether its one path goes through it.
        self.flows = {}
        self.passed = {}
        self.origins = {}

    def is_single(self, node):
        """Whether at most one path can go through a node."""
        return node != self.root and self.levels[node] <= self.bound

    def users(self, node):
        """The lower sides of the users from which paths come to a node."""
        return [2 * user + 1 for user, many in self.flows.get(node, {}).items() if many > 0]

    def moves(self, place):
        """The places to which one more path, or the undoing of a part of one, can go on from a place."""
        node = place // 2
        passed = self.passed.get(node, False)
        if place & 1 == 0:
            return self.users(node) if passed else [place + 1]
        rows = [2 * operand + int(not self.is_single(operand)) for operand in operand_nodes(self.net, node)]
        if not self.is_single(node):
            rows.extend(self.users(node))
        elif passed:
            rows.append(place - 1)
        return rows

    def search(self):
        """The lower side of the input or register at which one more path begins, None if there is none."""
        self.origins = {2 * self.root + 1: None}
        todo = [2 * self.root + 1]
        while todo:
            place = todo.pop()
            if place & 1 and 0 < place // 2 < self.first:
                return place
            for other in self.moves(place):
                if other not in self.origins:
                    self.origins[other] = place
                    todo.append(other)
        return None

    def shift(self, upper, lower):
        """Lets a path go from one place to the next one, or undoes this part of one."""
        above = upper // 2
        below = lower // 2
        if above == below:
            self.passed[above] = upper < lower
        elif above > below:
            flow = self.flows.setdefault(below, {})
            flow[above] = flow.get(above, 0) + 1
        else:
            self.flows[above][below] -= 1

    def grow(self):
        """Adds one more path; False if there is none."""
        place = self.search()
        if place is None:
            return False
        while self.origins[place] is not None:
            self.shift(self.origins[place], place)
            place = self.origins[place]
        return True

    def grow_to(self, many):
        """Whether there are so many paths."""
        for _ in range(many):
            if not self.grow():
                return False
        return True

    def cut(self):
        """The nodes nearest to the root that all paths go through, ascending; behind a search that found none."""
        return sorted([place // 2 for place in self.origins if place & 1 == 0 and place + 1 not in self.origins])

    def paths(self, many):
        """So many paths that were added, each from an input or register to the root."""
        left = {node: dict(flow) for node, flow in self.flows.items()}
        rows = []
        for _ in range(many):
            path = [self.root]
            while path[-1] >= self.first:
                node = path[-1]
                below = max([low for low in operand_nodes(self.net, node) if left.get(low, {}).get(node, 0) > 0])
                left[below][node] -= 1
                path.append(below)
            rows.append(tuple(path[::-1]))
        return tuple(rows)
