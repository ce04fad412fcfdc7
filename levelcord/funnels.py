"""Funnels: what is settled of a cord while bounds still come."""

from levelcord.cords import next_touch, taut_row
from levelcord.errors import NoNumber, NoRow, NoTube
from levelcord.numbers import is_number
from levelcord.tubes import MOST_PLACES, is_place, is_within


class Funnel:
    """Places told one after another, and the touches that the cords of all longer tubes have as bends."""

    def __init__(self, begin):
        if not is_number(begin):
            raise NoNumber("a funnel begins with a number")
        self.places = [(begin, begin)]
        self.touches = [(0, begin)]
        self.showing = []

    def put(self, low, high):
        """Takes a place and tells the touches that are settled anew; refused is NoTube."""
        if len(self.places) == MOST_PLACES or not is_place((low, high)):
            raise NoTube("this makes no tube")
        self.places.append((low, high))
        known = len(self.touches)
        shown = self.shown_behind()
        while shown is not None:
            touch, by = shown
            self.touches.append(touch)
            self.showing.append(by)
            shown = self.shown_behind()
        return tuple(self.touches[known:])

    def shown_behind(self):
        """Tells the touch that shows behind the last settled one and the place that shows it, or None."""
        place, height = self.touches[-1]
        return next_touch(self.places, place, height)

    def settled(self):
        """Tells all touches that are settled, without place 0."""
        return tuple(self.touches[1:])

    def shown_by(self):
        """Tells for each settled touch, without place 0, a later place that shows it."""
        return tuple(self.showing)

    def tube(self):
        """Tells all places, with place 0."""
        return tuple(self.places)

    def cord_to(self, end):
        """Tells the cord of all places, tied at the last one to a number; refused are NoTube, then NoRow."""
        if len(self.places) == 1:
            raise NoTube("no place was told")
        if not is_number(end) or not is_within(self.places[-1], end):
            raise NoRow("the end is not within the last place's bounds")
        return taut_row(self.places[:-1] + [(end, end)])
