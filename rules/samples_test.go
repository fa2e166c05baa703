package rules_test

import (
	"math/rand/v2"

	"gumshoe/api"
	"gumshoe/samples"
)

// made is the program of a seed.
func made(kind uint64, seed uint64) api.Node { return samples.Program(generator(kind, seed).IntN) }

func generator(kind uint64, seed uint64) *rand.Rand { return rand.New(rand.NewPCG(kind, seed)) }
