"""Streams: configurations as bits in frames."""
from beatfabric.errors import BadStream
from beatfabric.frames import frame_of, frame_size, read_frame
from beatfabric.words import join_ports, split_ports

# The parts of a header and their widths; each part is written less its least value.
HEADER = (("columns", 3), ("rows", 3), ("tracks", 4), ("k", 2))
LEAST = (1, 1, 1, 2)
HEADER_BITS = 12
MOST_TRACKS = 12
MOST_PINS = 4


def tile_ports(fabric):
    """The parts of the data of a tile, and their widths."""
    _, _, _, tracks, k = fabric
    width = (2 + 4 * tracks).bit_length()
    return [("bit", 1)] * ((1 << k) + 1) + [("selector", width)] * (k + 4 * tracks)


def data_size(ports):
    """The number of bits of some parts."""
    return sum([width for _, width in ports])


def stream_of(config):
    """The stream of a configuration."""
    _, fabric, tiles = config
    parts = [part - least for part, least in zip(fabric[1:], LEAST)]
    bits = list(frame_of(split_ports(HEADER, parts)))
    ports = tile_ports(fabric)
    for table, start, pins, turns in tiles:
        bits.extend(frame_of(split_ports(ports, table + (start,) + pins + turns)))
    return tuple(bits)


def put_right(bits, told):
    """Bits with the one that is told to be wrong put right."""
    if told[0] != "bit":
        return tuple(bits)
    at = told[1]
    return tuple(bits[:at]) + (1 - bits[at],) + tuple(bits[at + 1:])


def read_header(stream):
    """The fabric that the header of a stream tells."""
    size = frame_size(HEADER_BITS)
    if len(stream) < size:
        raise BadStream("length")
    told = read_frame(HEADER_BITS, stream[:size])
    if told[0] == "more":
        raise BadStream("header")
    parts = join_ports(HEADER, put_right(stream[:size], told))
    columns, rows, tracks, k = [part + least for part, least in zip(parts, LEAST)]
    if tracks > MOST_TRACKS or k > MOST_PINS:
        raise BadStream("header")
    return ("fabric", columns, rows, tracks, k)


def read_frames(stream):
    """The fabric of a stream, and for each frame where it begins, the number of its data bits, and its bits."""
    fabric = read_header(stream)
    _, columns, rows, _, _ = fabric
    sizes = [HEADER_BITS] + [data_size(tile_ports(fabric))] * (columns * rows)
    frames = []
    begin = 0
    for many in sizes:
        end = begin + frame_size(many)
        frames.append((begin, many, stream[begin:end]))
        begin = end
    if begin != len(stream):
        raise BadStream("length")
    return fabric, frames


def inspected(stream):
    """For each frame of a stream what is wrong with it."""
    _, frames = read_frames(stream)
    rows = []
    for begin, many, frame in frames:
        told = read_frame(many, frame)
        rows.append(("bit", begin + told[1]) if told[0] == "bit" else told)
    return tuple(rows)


def mended_frames(frames):
    """The frames of a stream with all wrong bits put right."""
    rows = []
    for _, many, frame in frames:
        told = read_frame(many, frame)
        if told[0] == "more":
            raise BadStream("frame")
        rows.append(put_right(frame, told))
    return rows


def mended(stream):
    """The stream with all wrong bits put right."""
    _, frames = read_frames(stream)
    return tuple([bit for frame in mended_frames(frames) for bit in frame])


def configured(stream):
    """The configuration that a stream writes."""
    fabric, frames = read_frames(stream)
    k = fabric[4]
    ports = tile_ports(fabric)
    tiles = []
    for frame in mended_frames(frames)[1:]:
        words = join_ports(ports, frame)
        pins = (1 << k) + 1
        tiles.append((words[:1 << k], words[1 << k], words[pins:pins + k], words[pins + k:]))
    return ("config", fabric, tuple(tiles))
