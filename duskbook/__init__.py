"""Duskbook: beacons settled by a keeper and a storm, and books of rules that one of them can hold or break."""
