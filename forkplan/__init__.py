"""Forkplan: plans with forks, in worlds only partly seen."""
