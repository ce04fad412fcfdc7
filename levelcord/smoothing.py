"""Data smoothed at a price for each up and down."""

from levelcord.cords import cord
from levelcord.errors import NoData, NoPrice, NoRow
from levelcord.measures import total
from levelcord.numbers import NOUGHT, added, is_less, is_number, multiplied, taken
from levelcord.tubes import are_numbers, are_steps, differences, tube_round_sums


def want_data(data):
    """Refuses what is no data with NoData."""
    # data are what steps are: one to 24 numbers
    if not are_steps(data):
        raise NoData("these are no data")


def want_price(price):
    """Refuses what is no price with NoPrice."""
    if not is_number(price) or is_less(price, NOUGHT):
        raise NoPrice("this is no price")


def tube_of(data, price):
    """Tells the tube of sums of data at a price; refused are NoData, then NoPrice."""
    want_data(data)
    want_price(price)
    return tube_round_sums(data, price, price)


def smoothed(data, price):
    """Tells the row by which data cost least at a price; refused are NoData, then NoPrice."""
    return differences(cord(tube_of(data, price)))


def square(one):
    """Tells a number times itself."""
    return multiplied(one, one)


def without_sign(one):
    """Tells how far a number is from 0."""
    return (abs(one[0]), one[1])


def costs(data, price, row):
    """Tells what data cost by other numbers at a price; refused are NoData, then NoPrice, then NoRow."""
    want_data(data)
    want_price(price)
    if not are_numbers(row, len(data), len(data)):
        raise NoRow("these are not as many numbers as data")
    off = total([square(taken(one, other)) for one, other in zip(data, row)])
    ups_and_downs = total([without_sign(step) for step in differences(row)])
    return added(off, multiplied(multiplied((2, 1), price), ups_and_downs))
