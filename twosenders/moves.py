"""Moves within a list: of a screen's rows, of a row's cells, and of what is sure of these."""


def room(first, bottom, many):
    """How many of so many fit from the first place to the bottom one."""
    return min(many, bottom + 1 - first)


def taken_out(things, first, bottom, fresh):
    """As many go from the first place on as there are fresh ones, which follow at the bottom."""
    return things[:first] + things[first + len(fresh):bottom + 1] + fresh + things[bottom + 1:]


def put_in(things, first, bottom, fresh):
    """The fresh ones stand from the first place on; what would move below the bottom goes."""
    return things[:first] + fresh + things[first:bottom + 1 - len(fresh)] + things[bottom + 1:]
