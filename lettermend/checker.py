"""The checker: what it accepts is so, whoever wrote the paper."""

from lettermend.clusterclaims import is_shown_of_clusters
from lettermend.storeclaims import is_shown_of_stores


def accepts(claim, paper):
    """Whether the claim is one for the checker and the paper is one for it, whatever both are."""
    if not isinstance(claim, tuple) or len(claim) == 0 or not isinstance(claim[0], str):
        return False
    word, parts = claim[0], claim[1:]
    return is_shown_of_stores(word, parts, paper) or is_shown_of_clusters(word, parts, paper)
