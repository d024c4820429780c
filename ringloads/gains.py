"""By how much each tie's load is greater when all asks go whole."""

from ringloads.loads import loads_of
from ringloads.ratios import minus
from ringloads.sendings import sent_by


def gains_of(ring, sending, ways):
    """For each tie its load by the ways, less its load by the sending."""
    whole = loads_of(ring, sent_by(ring, ways))
    return [minus(load, parted) for load, parted in zip(whole, loads_of(ring, sending))]
