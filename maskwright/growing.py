"""Regions made greater and smaller by so many places all around."""

from maskwright.mixing import less
from maskwright.regions import stacked


def spread(region, low, high):
    """The region of all places that are at most low below and high above a place of a region, in x and in y."""
    bands = []
    for y0, y1, row in region:
        wider = tuple([(x0 - low, x1 + high) for x0, x1 in row])
        bands.append((y0 - low, y1 + high, wider))
    return stacked(bands)


def grown(region, k):
    """The region of all places that are at most k from a place of a region."""
    return spread(region, k, k)


def frame(region, k):
    """The region of one rectangle that has all places at most k from those of a region."""
    left = min([row[0][0] for y0, y1, row in region])
    right = max([row[-1][1] for y0, y1, row in region])
    return ((region[0][0] - k, region[-1][1] + k, ((left - k, right + k),)),)


def shrunk(region, k):
    """The region of the places all of whose places at most k off are a region's own."""
    if not region:
        return ()
    lacking = less(frame(region, k), region)
    return less(region, grown(lacking, k))
