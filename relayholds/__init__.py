"""Relayholds: circuits of relays that end as told, whatever their times."""
