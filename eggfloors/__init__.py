"""Eggfloors: from which floor on a thing breaks, found with few things and few drops."""
