"""Whether a house still stands, for all that is begun in it and ends with its fall."""

from onehistory.errors import Fallen


def ask_standing(house, falls):
    """Fallen, with the house's moment now, where it fell since it had fallen so often."""
    if house.falls() != falls:
        raise Fallen(house.moment())
