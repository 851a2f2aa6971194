"""Likewebs: webs that are alike, and one form for all of them."""
