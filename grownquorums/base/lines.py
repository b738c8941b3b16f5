"""The line of a width, which books and camps have."""

_WIDTH_LINES = {"width 2": 2, "width 3": 3, "width 4": 4, "width 5": 5}


def width_line(width):
    """The line of a width, like width 3."""
    return f"width {width}"


def width_in(line):
    """The width of a line, None if the value is no such line."""
    if not isinstance(line, str):
        return None
    return _WIDTH_LINES.get(line)
