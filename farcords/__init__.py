"""Farcords: closed cords on sheets of triangles, counted where nobody could walk them."""
