"""Papers: lists that tell the owner of each point, and their checker."""

from filledonce.errors import InvalidPaper, NotShown
from filledonce.meshes import inside, owners
from filledonce.points import as_point, is_point
from filledonce.wholes import is_index


def check(rule, mesh, samples, paper):
    """Return how many samples are inside a mesh, if a paper tells the one owner of each of them."""
    check_entries(paper, len(mesh))
    told = {}
    for thing, number in paper:
        told.setdefault(as_point(thing).pair(), []).append(number)
    many = 0
    for point in samples.points():
        if inside(mesh, point):
            numbers = told.get(point.pair(), [])
            if len(numbers) != 1 or numbers != owners(rule, mesh, point):
                raise NotShown(point)
            many += 1
    return many


def check_entries(paper, many):
    """Raise InvalidPaper for what is no list of pairs of a point and an index of so many triangles."""
    if not isinstance(paper, list):
        raise InvalidPaper(None)
    for number, entry in enumerate(paper):
        if not is_entry(entry, many):
            raise InvalidPaper(number)


def is_entry(thing, many):
    """Tell whether a value is a pair of a point and an index of so many triangles."""
    return isinstance(thing, tuple) and len(thing) == 2 and is_point(thing[0]) and is_index(thing[1], many)


def paper_of(rule, mesh, samples):
    """Return a list of pairs of each sample inside a mesh and its owner."""
    paper = []
    for point in samples.points():
        if inside(mesh, point):
            numbers = owners(rule, mesh, point)
            if len(numbers) != 1:
                raise NotShown(point)
            paper.append((point, numbers[0]))
    return paper
