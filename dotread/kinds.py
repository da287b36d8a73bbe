"""What kind of thing is handed in: asked before anything else is done with it.

A thing of any kind may be handed in, so only its class is looked at: none of its own methods is run.
"""


def is_number(thing):
    """Tell whether a thing is a whole number; truths are none."""
    return type(thing) == int


def is_between(thing, least, most):
    """Tell whether a thing is a number from least to most."""
    return is_number(thing) and least <= thing <= most


def is_text(thing):
    """Tell whether a thing is a text."""
    return type(thing) == str


def is_list(thing):
    """Tell whether a thing may stand where a list is handed in."""
    return type(thing) in (list, tuple)


def is_tuple(thing, many):
    """Tell whether a thing is a tuple of so many things."""
    return type(thing) == tuple and len(thing) == many
