"""The whole flow: from a design to a stream."""
from beatfabric.check import check
from beatfabric.codes import code_paper, recoded
from beatfabric.configs import config_of
from beatfabric.covering import cover_of
from beatfabric.flatten import flatten
from beatfabric.graphof import graph_of
from beatfabric.netof import net_of
from beatfabric.packing import cells_of, packing_of
from beatfabric.passes import passed
from beatfabric.placing import place
from beatfabric.reading import read_design
from beatfabric.routing import route
from beatfabric.streams import stream_of
from beatfabric.tables import tables_of
from beatfabric.times import Times


def coded_graph(flat, style):
    """The graph of a flat design, recoded by the finder's paper for a style."""
    graph = graph_of(flat)
    return recoded(graph, code_paper(graph, style))


def net_behind(graph, shapes, passes):
    """The net of a graph behind passes."""
    net = net_of(graph, shapes)
    for word in passes:
        net = passed(net, word)
    return net


def net_cells(net, k):
    """The packed cells of a net."""
    tables = tables_of(net, cover_of(net, k))
    return cells_of(tables, packing_of(tables))


class Build:
    """What was made of a design with numbers and settings, from stage to stage."""

    def __init__(self, design, numbers, settings):
        _, style, shapes, passes, fabric, seed, delays = settings
        self.flat = flatten(design, numbers)
        check(self.flat)
        self.graph = coded_graph(self.flat, style)
        self.net = net_behind(self.graph, shapes, passes)
        self.cells = net_cells(self.net, fabric[4])
        self.places = place(fabric, self.cells, seed=seed)
        self.routes = route(fabric, self.cells, self.places)
        config = config_of(fabric, self.cells, self.places, self.routes)
        self.stream = stream_of(config)
        self.delays = delays
        _, _, input_pads, output_pads = self.places
        self.inputs = tuple(zip(self.cells[1], input_pads))
        self.outputs = tuple([(name, pad) for (name, _), pad in zip(self.cells[3], output_pads)])
        self.clock = Times(config, output_pads, delays).told()


def build(design, numbers, settings):
    """Builds a design."""
    return Build(design, numbers, settings)


def build_text(text, numbers, settings):
    """Builds the design of a text."""
    return build(read_design(text), numbers, settings)
