"""Meets: two beginnings of one text, gone on with together from where they are unlike."""

from tastegrove.places import places_of


# What is known of two unlike beginnings is a tuple that has their places first. Which one it is a view tells: by
# forked(one, other) of two unlike trails of one list, the one with lesser marks first, by which they come to be
# unlike; by followed(known, one, other) of what was known of them and a trail each; and by does_end(known) whether it
# is sought. Of two that are alike the place alone is known, (place,), or (None,) of the text without signs.
class Meets:
    def __init__(self, pattern, trails, view):
        self.trails = trails
        self.view = view
        signs = places_of(pattern)
        # For each two places the least sign that both have, nothing where there is none.
        self.least = [["".join(sorted(set(one) & set(other))[:1]) for other in signs] for one in signs]

    def least_sign(self, one, other):
        return self.least[one.place][other.place]

    def forks(self, trails):
        found = []
        for k, one in enumerate(trails):
            found.extend([(one, other) for other in trails[k + 1:] if self.least_sign(one, other) != ""])
        return found

    # Each trail from the one place with each from the other.
    def follows(self, known):
        found = []
        for one in self.trails.steps[known[0]]:
            found.extend([(one, other) for other in self.trails.steps[known[1]] if self.least_sign(one, other) != ""])
        return found

    def onward(self, known):
        if len(known) > 1:
            return [(self.least_sign(one, other), self.view.followed(known, one, other), (one, other))
                    for one, other in self.follows(known)]
        trails = self.trails.starts if known[0] is None else self.trails.steps[known[0]]
        found = [(self.least_sign(trail, trail), (trail.place,), (trail, trail)) for trail in trails]
        for one, other in self.forks(trails):
            found.append((self.least_sign(one, other), self.view.forked(one, other), (one, other)))
        return found

    def is_sought(self, known):
        return self.view.does_end(known)

    # Whether the paper, in which stands what may be known of two, has all that comes of the trails and of what it has,
    # and nothing that is sought.
    def is_shut(self, paper):
        has = {}
        for known in paper:
            has[known] = True
        for trails in [self.trails.starts] + self.trails.steps:
            if any([self.view.forked(one, other) not in has for one, other in self.forks(trails)]):
                return False
        for known in has:
            if self.is_sought(known):
                return False
            if any([self.view.followed(known, one, other) not in has for one, other in self.follows(known)]):
                return False
        return True


# What is known of each two unlike beginnings that were found.
def paper_found(search):
    return [known for known in search.found if len(known) > 1]
