"""Morethanhalf: the one that more than half are, by likenings alone."""
