"""Random configurations, and slow devices by the words of the document, for the tests."""
from tests.cellmaking import AWAY, slow_tiles


def selected(fabric, x, y, selector):
    """What a selector selects: (word, place), None for nothing."""
    tracks = fabric[3]
    if selector == 1:
        return ("table", (x, y))
    if selector == 2:
        return ("reg", (x, y))
    if not 3 <= selector < 3 + 4 * tracks:
        return None
    side, track = divmod(selector - 3, tracks)
    there = (x + AWAY[side][0], y + AWAY[side][1])
    if there in slow_tiles(fabric):
        return ("wire", there + ((side + 2) % 4, track))
    return ("pad", (x, y, side, track))


def selector_width(fabric):
    return len(bin(2 + 4 * fabric[3])) - 2


def random_config(source, fabric, rings=False, idle=3):
    """A configuration in which no elements hang on each other in a ring, or one with any selectors.

    One of so many selectors is one that selects nothing.
    """
    _, _, _, tracks, k = fabric
    ranks = {}
    for tile in slow_tiles(fabric):
        for place in [tile] + [tile + (side, track) for side in range(4) for track in range(tracks)]:
            ranks[place] = source.random()

    def selector_for(place):
        free = []
        for selector in range(2 ** selector_width(fabric)):
            found = selected(fabric, *place[:2], selector)
            if rings or found is None or found[0] in ("pad", "reg") or ranks[found[1]] < ranks[place]:
                free.append(selector)
        none = [selector for selector in free if selected(fabric, *place[:2], selector) is None]
        some = [selector for selector in free if selector not in none]
        return source.choice(some if some and source.randrange(idle) else none)

    tiles = []
    for tile in slow_tiles(fabric):
        bits = tuple(source.randrange(2) for _ in range(2 ** k))
        pins = tuple(selector_for(tile) for _ in range(k))
        turns = tuple(selector_for(tile + (side, track)) for side in range(4) for track in range(tracks))
        tiles.append((bits, source.randrange(2), pins, turns))
    return ("config", fabric, tuple(tiles))


def links_of(config):
    """For each element by its place what it selects."""
    _, fabric, tiles = config
    links = {}
    for tile, (_, _, pins, turns) in zip(slow_tiles(fabric), tiles):
        links[tile] = [selected(fabric, *tile, pin) for pin in pins]
        for at, selector in enumerate(turns):
            links[tile + divmod(at, fabric[3])] = [selected(fabric, *tile, selector)]
    return links


def slow_ring_place(config):
    """The least place of an element on a ring, None if there is none."""
    links = links_of(config)
    found = []
    for start in links:
        reached = set()
        todo = [start]
        while todo:
            for other in links[todo.pop()]:
                if other is not None and other[1] in links and other[0] not in ("pad", "reg"):
                    if other[1] not in reached:
                        reached.add(other[1])
                        todo.append(other[1])
        if start in reached:
            found.append(start)
    return min(found, default=None)


class SlowDevice:
    """A device that is given and shows bits by pads."""

    def __init__(self, config):
        _, self.fabric, tiles = config
        self.rows = dict(zip(slow_tiles(self.fabric), tiles))
        self.regs = {tile: row[1] for tile, row in self.rows.items()}

    def bit(self, pads, found):
        if found is None:
            return 0
        word, place = found
        if (word, place) not in self.known:
            self.known[(word, place)] = self.own_bit(pads, word, place)
        return self.known[(word, place)]

    def own_bit(self, pads, word, place):
        if word == "pad":
            return pads.get(place, 0)
        if word == "reg":
            return self.regs[place]
        bits, _, pins, turns = self.rows[place[:2]]
        if word == "wire":
            return self.bit(pads, selected(self.fabric, *place[:2], turns[place[2] * self.fabric[3] + place[3]]))
        found = [self.bit(pads, selected(self.fabric, *place, pin)) for pin in pins]
        return bits[sum(bit * 2 ** j for j, bit in enumerate(found))]

    def beat(self, pads, outputs):
        self.known = {}
        shown = tuple(self.bit(pads, ("wire", pad)) for pad in outputs)
        tables = {tile: self.bit(pads, ("table", tile)) for tile in self.rows}
        # All elements, for comparison.
        self.shown = {("wire", tile + divmod(at, self.fabric[3])): None for tile in self.rows
                      for at in range(4 * self.fabric[3])}
        for found in self.shown:
            self.shown[found] = self.bit(pads, found)
        self.shown.update({("table", tile): bit for tile, bit in tables.items()})
        self.regs = tables
        return shown


class SlowClocked:
    """A clocked device, each bit at each moment by itself."""

    def __init__(self, config, delays, period, noise):
        _, self.fabric, tiles = config
        self.rows = dict(zip(slow_tiles(self.fabric), tiles))
        self.delays = dict(zip(("table", "hop", "start", "setup"), delays[1:]))
        self.period = period
        self.noise = noise
        self.given = []
        self.known = {}

    def noise_of(self, word, place):
        if word == "table":
            j = 0
        elif word == "reg":
            j = 1
        else:
            j = 2 + place[2] * self.fabric[3] + place[3]
        return self.noise // 2 ** ((7 * place[0] + 3 * place[1] + j) % 30) % 2

    def content(self, tile, beat):
        if beat == 0:
            return self.rows[tile][1]
        return self.bit("table", tile, beat * self.period - self.delays["setup"])

    def pin(self, x, y, selector, moment):
        found = selected(self.fabric, x, y, selector)
        return 0 if found is None else self.bit(*found, moment)

    def bit(self, word, place, moment):
        key = (word, place, moment)
        if key not in self.known:
            self.known[key] = self.own_bit(word, place, moment)
        return self.known[key]

    def own_bit(self, word, place, moment):
        if word == "reg":
            moment -= self.delays["start"]
            if moment < 0:
                return self.noise_of(word, place)
            return self.content(place, moment // self.period)
        if moment < 0:
            return self.noise_of(word, place)
        if word == "pad":
            return self.given[moment // self.period].get(place, 0)
        bits, _, pins, turns = self.rows[place[:2]]
        x, y = place[:2]
        if word == "wire":
            selector = turns[place[2] * self.fabric[3] + place[3]]
            if selected(self.fabric, x, y, selector) is None:
                return 0
            return self.pin(x, y, selector, moment - self.delays["hop"])
        found = [self.pin(x, y, selector, moment - self.delays["table"]) for selector in pins]
        return bits[sum(bit * 2 ** j for j, bit in enumerate(found))]

    def beat(self, pads, outputs):
        self.given.append(pads)
        end = len(self.given) * self.period
        return tuple(self.bit("wire", pad, end) for pad in outputs)


def slow_arrivals(config, delays):
    """The arrivals of all elements, by their places."""
    links = links_of(config)
    _, table, hop, start, _ = delays
    known = {}

    def arrival(found):
        word, place = found
        if word == "pad":
            return 0
        if word == "reg":
            return start
        if place not in known:
            rows = [arrival(other) for other in links[place] if other is not None]
            known[place] = (table if word == "table" else hop) + max(rows) if rows else 0
        return known[place]

    for place in links:
        arrival(("table" if len(place) == 2 else "wire", place))
    return known


def slow_read(config):
    """The tiles whose registers are read."""
    return [tile for tile, row in zip(slow_tiles(config[1]), config[2]) if 2 in row[2] + row[3]]


def slow_clock(config, outputs, delays):
    known = slow_arrivals(config, delays)
    return max([1] + [known[pad] for pad in outputs] + [known[tile] + delays[4] for tile in slow_read(config)])


def slow_frame(data):
    """The frame of data bits, by the words of the document."""
    numbers = [number for number in range(3, 600) if bin(number).count("1") > 1][:len(data)]
    width = 1
    while 2 ** width <= numbers[-1]:
        width += 1
    word = 0
    for number, bit in zip(numbers, data):
        word ^= number * bit
    bits = tuple(data) + tuple(word // 2 ** j % 2 for j in range(width))
    return bits + (sum(bits) % 2,)


def low_first(number, width):
    return tuple(number // 2 ** at % 2 for at in range(width))


def slow_stream(config):
    _, (_, columns, rows, tracks, k), tiles = config
    header = low_first(columns - 1, 3) + low_first(rows - 1, 3) + low_first(tracks - 1, 4) + low_first(k - 2, 2)
    stream = slow_frame(header)
    width = len(bin(2 + 4 * tracks)) - 2
    for bits, start, pins, turns in tiles:
        data = bits + (start,)
        for selector in pins + turns:
            data += low_first(selector, width)
        stream += slow_frame(data)
    return stream
