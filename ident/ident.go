// Package ident: names (chapter 1).
package ident

import (
	"strings"

	"henhouse/api"
)

// Name tells whether s may name a tenant or a collection.
func Name(s string) bool {
	if len(s) < 1 || len(s) > api.MaxName || !small(s[0]) || s[len(s)-1] == '-' {
		return false
	}
	for i := range len(s) {
		if c := s[i]; !small(c) && !digit(c) && c != '-' {
			return false
		}
	}
	return true
}

// UID tells whether s may name a card.
func UID(s string) bool {
	if len(s) < 1 || len(s) > api.MaxUID {
		return false
	}
	for i := range len(s) {
		c := s[i]
		if !small(c) && !great(c) && !digit(c) && strings.IndexByte("-._@", c) < 0 {
			return false
		}
	}
	return true
}

// Key is the key of a tenant's collection, empty where one of them is no Name.
func Key(tenant, col string) string {
	if !Name(tenant) || !Name(col) {
		return ""
	}
	return tenant + "/" + col
}

// Split tells the tenant and the collection of a key.
func Split(key string) (tenant, col string, ok bool) {
	// A Name has no slash, so the first one of a key is its only one.
	tenant, col, ok = strings.Cut(key, "/")
	if !ok || !Name(tenant) || !Name(col) {
		return "", "", false
	}
	return tenant, col, true
}

func small(c byte) bool { return c >= 'a' && c <= 'z' }

func great(c byte) bool { return c >= 'A' && c <= 'Z' }

func digit(c byte) bool { return c >= '0' && c <= '9' }
