"""Splittalk: talks of two people in which both learn a result and nothing else."""
