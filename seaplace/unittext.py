"""Units as texts."""

from seaplace.facts import names_in
from seaplace.graphtext import rows_for


def unit_text(graph, profile, pins, hold):
    """The text of a unit, of a good graph, profile, pins and hold."""
    rows = [f"unit {hold}"]
    rows.append(" ".join(["counts"] + [str(profile[name]) for name in names_in(graph)]))
    for node, slot in pins:
        rows.append(f"pin {node} {slot[0]} {slot[1]}")
    return "\n".join(rows + rows_for(graph))
