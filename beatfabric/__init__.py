"""Beatfabric: from a design in words, through bits, tables and wires, to a configured device."""
