"""How the panes of a tiled desk lie to one another."""
