package solve_test

import (
	"math/rand/v2"

	"gumshoe/api"
	"gumshoe/rules"
	"gumshoe/samples"
)

func generator(kind uint64, seed uint64) *rand.Rand { return rand.New(rand.NewPCG(kind, seed)) }

// made is the system of a seed.
func made(kind uint64, seed uint64) api.System { return samples.System(generator(kind, seed).IntN) }

// ruled is the system of a text's program.
func ruled(text string) api.System {
	_, s, _, _ := rules.Rules(samples.Read(text))
	return s
}

// program is the system of a seed's program.
func program(kind uint64, seed uint64) api.System {
	_, s, _, _ := rules.Rules(samples.Program(generator(kind, seed).IntN))
	return s
}
