"""What mixtures of settings there are."""

from heldalways.bounds import keeps_entries


def hull_rows(settings):
    many = len(settings[0])
    return tuple([
        tuple([min([setting[other] - setting[one] for setting in settings]) for other in range(many)])
        for one in range(many)])


def mixture(settings, picks):
    return tuple([
        max([min([settings[number][at] + shift for number, shift in pairs]) for pairs in picks])
        for at in range(len(settings[0]))])


def picks_of(settings, value):
    if not keeps_entries(hull_rows(settings), value):
        return None
    if len(value) == 0:
        return (((0, 0),),)
    return tuple([pairs_through(settings, value, one) for one in range(len(value))])


def pairs_through(settings, value, one):
    """Pairs whose least numbers are nowhere above the value, and at one point are its own."""
    pairs = []
    for other in range(len(value)):
        rises = [setting[other] - setting[one] for setting in settings]
        number = rises.index(min(rises))
        pairs.append((number, value[one] - settings[number][one]))
    return tuple(pairs)
