"""Notation: how calls, scripts, places and claims are written."""


def show_call(call):
    """The text of a call."""
    return " ".join([str(item) for item in call])


def show_script(script):
    """The text of a script."""
    return str(script.files) + ":" + ",".join([" " + show_call(call) for call in script])


def show_place(place):
    """The text of a place."""
    return pointed(place)


def show_claim(claim):
    """The text of a claim."""
    return " ".join([claim[0], str(claim[1])] + [pointed(spot) for spot in claim[2:]])


def pointed(items):
    """The items of a place or a spot, joined by full stops."""
    return ".".join([str(item) for item in items])
