"""Stores: what is bought at each time so that what is needed is there."""

from levelcord.cords import cord
from levelcord.errors import NoNeeds, NoRoom
from levelcord.numbers import NOUGHT, is_less, is_number
from levelcord.tubes import are_steps, differences, tube_round_sums


def want_needs(needs):
    """Refuses what is no needs with NoNeeds."""
    # needs are steps, one to 24 numbers, none of them below 0
    if not are_steps(needs) or any([is_less(need, NOUGHT) for need in needs]):
        raise NoNeeds("these are no needs")


def want_room(room):
    """Refuses what is no room with NoRoom."""
    if not is_number(room) or is_less(room, NOUGHT):
        raise NoRoom("this is no room")


def store_tube(needs, room):
    """Tells the tube of all that may have been bought up to each time; refused are NoNeeds, then NoRoom."""
    want_needs(needs)
    want_room(room)
    return tube_round_sums(needs, NOUGHT, room)


def bought(needs, room):
    """Tells what is bought at each time by the most level plan; refused are NoNeeds, then NoRoom."""
    return differences(cord(store_tube(needs, room)))
