"""Random designs that flattening and the checker let, for the tests."""
import random

WIDE_OPS = ("|", "^", "&", "+", "-", "*")
COMPARE_OPS = ("==", "!=", "<", "<=")


class Names:
    """What an expr of a module can read: pairs (expr, width), memories and state machines."""

    def __init__(self):
        self.reads = []
        self.mems = []
        self.machines = []


class Maker:
    """Makes one random design from a seed."""

    def __init__(self, seed, modules=3):
        self.random = random.Random(seed)
        self.modules = []
        self.made = {}
        for at in range(modules):
            self.modules.append(self.module(at, at == modules - 1))

    def design(self):
        return tuple(self.modules)

    def const(self, value, params=()):
        """A const of this value, written in one of several ways."""
        kind = self.random.randrange(6)
        known = [name for name, number in params if number == value]
        if known and kind < 3:
            return ("param", known[0])
        if kind == 3 and value >= 1:
            part = self.random.randrange(value + 1)
            return ("+", ("int", part), ("int", value - part))
        if kind == 4 and value <= 200:
            part = self.random.randrange(50)
            return ("-", ("int", value + part), ("int", part))
        if kind == 5:
            return ("*", ("int", 1), ("int", value))
        return ("int", value)

    def expr(self, width, names, depth):
        choices = ["word", "name", "name"]
        if depth > 0:
            choices += ["two", "two", "not", "shift", "pick", "cut", "wide", "sign", "read"]
            if width > 1:
                choices.append("join")
            else:
                choices += ["compare", "compare", "fold", "is"]
        action = getattr(self, self.random.choice(choices) + "_expr")
        return action(width, names, depth - 1)

    def any_width(self):
        return self.random.randrange(1, 9)

    def word_expr(self, width, names, depth):
        return ("word", self.const(self.random.randrange(1 << width)), self.const(width))

    def name_expr(self, width, names, depth):
        known = [expr for expr, other in names.reads if other == width]
        if known:
            return self.random.choice(known)
        if names.reads and depth > -3:
            expr, other = self.random.choice(names.reads)
            return ("wide", expr, self.const(width))
        return self.word_expr(width, names, depth)

    def two_expr(self, width, names, depth):
        op = self.random.choice(WIDE_OPS)
        return (op, self.expr(width, names, depth), self.expr(width, names, depth))

    def not_expr(self, width, names, depth):
        return (self.random.choice(("not", "neg")), self.expr(width, names, depth))

    def shift_expr(self, width, names, depth):
        op = self.random.choice(("<<", ">>"))
        return (op, self.expr(width, names, depth), self.expr(self.any_width(), names, depth))

    def pick_expr(self, width, names, depth):
        return ("pick", self.expr(1, names, depth), self.expr(width, names, depth), self.expr(width, names, depth))

    def cut_expr(self, width, names, depth):
        whole = self.random.randrange(width, 9)
        low = self.random.randrange(whole - width + 1)
        return ("bits", self.expr(whole, names, depth), self.const(low + width - 1), self.const(low))

    def wide_expr(self, width, names, depth):
        return ("wide", self.expr(self.any_width(), names, depth), self.const(width))

    def sign_expr(self, width, names, depth):
        return ("sign", self.expr(self.random.randrange(1, width + 1), names, depth), self.const(width))

    def join_expr(self, width, names, depth):
        left = self.random.randrange(1, width)
        return ("join", self.expr(left, names, depth), self.expr(width - left, names, depth))

    def compare_expr(self, width, names, depth):
        op = self.random.choice(COMPARE_OPS)
        inner = self.any_width()
        return (op, self.expr(inner, names, depth), self.expr(inner, names, depth))

    def fold_expr(self, width, names, depth):
        return (self.random.choice(("any", "all", "odd")), self.expr(self.any_width(), names, depth))

    def is_expr(self, width, names, depth):
        if not names.machines:
            return self.compare_expr(width, names, depth)
        place, states = self.random.choice(names.machines)
        return ("is", place, self.random.choice(states))

    def read_expr(self, width, names, depth):
        known = [place for place, other, _ in names.mems if other == width]
        if not known:
            return self.two_expr(width, names, depth)
        return ("read", self.random.choice(known), self.expr(self.random.randrange(1, 5), names, depth))

    def setting(self, place, width, names, depth, always):
        """Statements that set a place, on every way if told so."""
        kind = self.random.randrange(4) if depth > 0 else 0
        if kind < 2:
            return (("set", place, self.expr(width, names, 3)),)
        if kind == 2:
            first = self.setting(place, width, names, depth - 1, always)
            second = ()
            if always or self.random.randrange(2):
                second = self.setting(place, width, names, depth - 1, always)
            return (("if", self.expr(1, names, 2), first, second),)
        return (self.case(place, width, names, depth, always),)

    def case(self, place, width, names, depth, always):
        inner = self.random.randrange(1, 4)
        words = list(range(1 << inner))
        self.random.shuffle(words)
        full = self.random.randrange(3) == 0
        if not full:
            words = words[:self.random.randrange(1, len(words) + 1)]
        arms = []
        while words:
            many = self.random.randrange(1, len(words) + 1)
            consts = tuple(self.const(word) for word in words[:many])
            words = words[many:]
            arms.append((consts, self.setting(place, width, names, depth - 1, always)))
        last = ()
        if (always and not full) or self.random.randrange(2):
            last = self.setting(place, width, names, depth - 1, always)
        return ("case", self.expr(inner, names, 2), tuple(arms), last)

    def writing(self, place, width, names):
        write = ("write", place, self.expr(self.random.randrange(1, 5), names, 1), self.expr(width, names, 2))
        other = ("write", place, self.expr(3, names, 1), self.expr(width, names, 1))
        if self.random.randrange(2):
            return ("if", self.expr(1, names, 2), (write, other), ())
        arms = (((self.const(0), self.const(2)), (write,)), ((self.const(1),), ()))
        return ("case", self.expr(2, names, 1), arms, (other, write))

    def going(self, place, states, names):
        def go():
            return (("go", place, self.random.choice(states)),)

        if self.random.randrange(2):
            return ("if", self.expr(1, names, 2), go(), (("if", self.expr(1, names, 1), go(), ()),))
        arms = tuple(((self.const(at),), go()) for at in range(3))
        return ("case", self.expr(2, names, 2), arms, ())

    def module(self, at, is_top):
        name = f"m{at}"
        width = self.any_width()
        params = (("p", width),) if self.random.randrange(2) else ()
        items = []
        names = Names()
        ports = []
        for k in range(self.random.randrange(1, 3)):
            wide = width if k == 0 else self.any_width()
            items.append(("input", (f"i{k}", None), self.const(wide, params)))
            names.reads.append((("name", (f"i{k}", None)), wide))
            ports.append(("bind", (f"i{k}", None), wide))
        work = []
        self.contents(items, names, work, params)
        self.links(items, names, work, ports, at)
        self.uses(items, names, work)
        outputs = []
        for k in range(self.random.randrange(1, 4)):
            place = ("w", ("int", k))
            wide = self.any_width()
            items.append(("wire", place, self.const(wide, params)))
            items.extend(self.setting(place, wide, names, 2, True))
            names.reads.append((("name", place), wide))
        for k in range(self.random.randrange(1, 3)):
            place = ("y", ("int", k))
            wide = self.any_width()
            items.append(("output", place, self.const(wide, params)))
            items.extend(self.setting(place, wide, names, 2, True))
            names.reads.append((("name", place), wide))
            outputs.append((place, wide))
        for action in work:
            items.extend(action())
        items.append(("claim", ("c", None), self.expr(1, names, 3)))
        self.made[name] = (params, ports, outputs)
        return ("module", name, tuple(param for param, _ in params), tuple(items))

    def contents(self, items, names, work, params):
        """Registers, memories and state machines; what sets them is made when all names are known."""
        for k in range(self.random.randrange(3)):
            place = (f"r{k}", None)
            wide = self.any_width()
            start = self.const(self.random.randrange(1 << wide))
            when = self.expr(1, names, 2) if self.random.randrange(2) else None
            reset = self.expr(1, names, 2) if self.random.randrange(2) else None
            items.append(("reg", place, self.const(wide, params), start, when, reset))
            names.reads.append((("name", place), wide))
            work.append(lambda place=place, wide=wide: self.setting(place, wide, names, 2, False))
        for k in range(self.random.randrange(2)):
            place = (f"q{k}", None)
            wide = self.any_width()
            size = self.random.randrange(1, 6)
            items.append(("mem", place, self.const(wide, params), self.const(size)))
            names.mems.append((place, wide, size))
            work.append(lambda place=place, wide=wide: (self.writing(place, wide, names),))
        for k in range(self.random.randrange(2)):
            place = (f"s{k}", None)
            states = ("idle", "busy", "done", "fail")[:self.random.randrange(1, 5)]
            items.append(("states", place, states))
            names.machines.append((place, states))
            work.append(lambda place=place, states=states: (self.going(place, states, names),))

    def links(self, items, names, work, ports, at):
        """A link in and a link out, whose handshake hangs on registers and inputs only."""
        if self.random.randrange(2) == 0:
            return
        wide = self.any_width()
        items.append(("link", "in", ("li", None), self.const(wide)))
        items.append(("take", ("li", None), self.expr(1, names, 1)))
        names.reads.append((("dot", ("li", None), ("data", None)), wide))
        names.reads.append((("dot", ("li", None), ("moves", None)), 1))
        ports.append(("tie", ("li", None), wide))

    def uses(self, items, names, work):
        for name, (params, ports, outputs) in list(self.made.items()):
            for copy in range(self.random.randrange(3)):
                self.use(items, names, (f"u{name[1:]}", ("int", copy)), name)

    def use(self, items, names, place, name):
        params, ports, outputs = self.made[name]
        binds = []
        for kind, port, wide in ports:
            if kind == "bind":
                binds.append(("bind", port, self.expr(wide, names, 2)))
            else:
                own = (f"k{place[0]}{place[1][1]}", None)
                items.append(("link", "own", own, self.const(wide)))
                when = self.expr(1, names, 1) if self.random.randrange(2) else None
                items.append(("give", own, self.expr(wide, names, 2), when))
                binds.append(("tie", port, own))
        items.append(("use", place, name, tuple(self.const(number) for _, number in params), tuple(binds)))
        for output, wide in outputs:
            names.reads.append((("dot", place, output), wide))

    def numbers(self):
        return tuple(number for _, number in self.made[self.modules[-1][1]][0])


def rows_for(ports, many, seed):
    """Random rows of words for ports (name, width)."""
    source = random.Random(seed)
    return [tuple(source.randrange(1 << width) for _, width in ports) for _ in range(many)]
