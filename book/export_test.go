package book

import "bailiwick/api"

// Owe adds debts. No row of calls makes more than one, since each call pays ahead of all else; the chapter speaks of several.
func Owe(b *Book, l ...api.Entry) { b.debts = append(b.debts, l...) }
