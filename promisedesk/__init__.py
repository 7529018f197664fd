"""Promisedesk: promises of time that are kept whatever comes."""
