package scale

import "criadera/api"

// A rack is casks without their wine. Acts on states and steps of systems are alike in what they need of casks and do to volumes.
type rack struct {
	vats []vat
	at   map[string]int // where the cask of a name is
}

type vat struct{ capacity, volume int }

// rackOf makes a rack of casks, of which tell tells the name, the capacity and the volume.
func rackOf[T any](l []T, tell func(x T) (string, vat)) rack {
	r := rack{at: map[string]int{}}
	for _, x := range l {
		name, v := tell(x)
		r.add(name, v)
	}
	return r
}

func (r *rack) add(name string, v vat) {
	r.at[name] = len(r.vats)
	r.vats = append(r.vats, v)
}

// refused is the error that a right act has by the casks that there are, and by their volumes.
func (r *rack) refused(a api.ScaleAct) api.Errno {
	if a.Kind == api.ScaleAdd {
		return r.refusedCask(a.Casks[0])
	}
	for _, name := range a.Casks {
		if _, ok := r.at[name]; !ok {
			return api.ErrMissing
		}
	}
	if kinds[a.Kind].takes && r.first(a).volume < a.Volume {
		return api.ErrNone
	}
	if kinds[a.Kind].puts && r.last(a).volume+a.Volume > r.last(a).capacity {
		return api.ErrFull
	}
	return api.OK
}

func (r *rack) refusedCask(name string) api.Errno {
	if _, ok := r.at[name]; ok {
		return api.ErrExists
	}
	if len(r.vats) >= api.MaxScaleCasks {
		return api.ErrFull
	}
	return api.OK
}

// follow does to the volumes what an act that is not refused does.
func (r *rack) follow(a api.ScaleAct) {
	if a.Kind == api.ScaleAdd {
		r.add(a.Casks[0], vat{capacity: a.Volume})
	}
	if kinds[a.Kind].takes {
		r.first(a).volume -= a.Volume
	}
	if kinds[a.Kind].puts {
		r.last(a).volume += a.Volume
	}
}

func (r *rack) first(a api.ScaleAct) *vat { return &r.vats[r.at[a.Casks[0]]] }

func (r *rack) last(a api.ScaleAct) *vat { return &r.vats[r.at[a.Casks[len(a.Casks)-1]]] }

func (r *rack) volumes() []int {
	return eachOf(r.vats, func(v vat) int { return v.volume })
}
