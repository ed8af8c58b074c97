"""Search: what is come to by texts, each by the least text that comes to it."""

from tastegrove.errors import TooMany


# A guide tells of a thing by onward(thing) triples (sign, thing, by): each thing that is come to from it by one sign
# more, with the least such sign at least, and by whatever is to be known of that; by is_sought(thing) whether it is
# sought. Found is a dict, in the order of the least texts that come to the things, from each to a triple (text, thing
# ahead of it, by); the first thing is come to without a sign.
class Search:
    def __init__(self, first, guide):
        self.guide = guide
        self.found = {first: ("", None, None)}
        # Pairs of a text and those things whose least text it is, in the order of the texts.
        self.groups = [("", [first])]

    # The things of one group are gone on from together: one by one, a later text might be come to ahead of a lesser.
    def arrivals_by_signs(self, things):
        arrivals = {}
        for thing in things:
            for sign, after, by in self.guide.onward(thing):
                if after not in self.found:
                    arrivals.setdefault(sign, []).append((after, thing, by))
        return arrivals

    # Goes on until a thing is come to that is sought, which is told, or all are found: None. Where most is a number, no
    # more things than that are found ahead of one that is sought.
    def seek(self, most):
        first = self.groups[0][1][0]
        if self.guide.is_sought(first):
            return first
        at = 0
        while at < len(self.groups):
            group = self.groups[at]
            arrivals = self.arrivals_by_signs(group[1])
            for sign in sorted(arrivals):
                text = group[0] + sign
                fresh = []
                for thing, ahead, by in arrivals[sign]:
                    if thing in self.found:
                        continue
                    self.found[thing] = (text, ahead, by)
                    if self.guide.is_sought(thing):
                        return thing
                    if most is not None and len(self.found) > most:
                        raise TooMany("too much is come to ahead of what is sought")
                    fresh.append(thing)
                self.groups.append((text, fresh))
            at += 1
        return None

    # What led to a thing, from the first one on.
    def led_by(self, thing):
        led = []
        at = thing
        while self.found[at][1] is not None:
            led.append(self.found[at][2])
            at = self.found[at][1]
        return led[::-1]
