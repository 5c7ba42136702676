"""Things compared part by part, truths and numbers told apart ([2], [31], [37])."""


def same(due, thing):
    """Whether any thing is just the one that is due, which isn't nested deep."""
    if isinstance(due, tuple):
        return isinstance(thing, tuple) and len(thing) == len(due) and all(same(a, b) for a, b in zip(due, thing))
    # To Python True is 1 and False is 0.
    return isinstance(thing, bool) == isinstance(due, bool) and thing == due
