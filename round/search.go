package round

import (
	"slices"
	"sync"

	"criadera/api"
	"criadera/checks"
)

// lookers is how many look at the states of a layer at once, at most.
const lookers = 4

// layers is the layers of a state, unless there are too many states.
func (p plant) layers(s state) ([][]state, api.Errno) {
	var looks sync.WaitGroup
	defer looks.Wait()
	ahead := make(chan []state, lookers) // none of the lookers waits for a search that was left
	known := map[state]bool{s: true}
	next := []state{s}
	var layers [][]state
search:
	for len(next) > 0 {
		layers = append(layers, next)
		parts := slices.Collect(slices.Chunk(next, (len(next)+lookers-1)/lookers))
		for _, part := range parts {
			looks.Go(func() { ahead <- p.ahead(part) })
		}
		next = nil
		for range parts {
			for _, x := range <-ahead {
				if known[x] {
					continue
				}
				if len(known) == api.MaxRoundStates {
					layers = nil
					break search
				}
				known[x] = true
				next = append(next, x)
			}
		}
		slices.SortFunc(next, compare)
	}
	return layers, checks.Unless(layers != nil, api.ErrLarge)
}
