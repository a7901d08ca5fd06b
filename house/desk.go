package house

import (
	"slices"

	"criadera/api"
)

// Desk keeps a log.
type Desk struct {
	house api.House
	log   []api.HouseEntry
}

// New returns a desk with no entries.
func New(h api.House) (*Desk, api.Errno) {
	if _, e := CheckHouse(h); e != api.OK {
		return nil, e
	}
	return &Desk{house: cloned(h)}, api.OK
}

// Enter enters an entry. Behind an error the desk stays as it is.
func (d *Desk) Enter(x api.HouseEntry) api.Errno {
	if d == nil {
		return api.ErrNil
	}
	log, e := Accept(d.house, d.log, x)
	if e == api.OK {
		d.log = log
	}
	return e
}

// Undo takes the last entry off.
func (d *Desk) Undo() api.Errno {
	if d == nil {
		return api.ErrNil
	}
	if len(d.log) == 0 {
		return api.ErrNone
	}
	d.log = d.log[:len(d.log)-1]
	return api.OK
}

// Log returns the log.
func (d *Desk) Log() []api.HouseEntry {
	if d == nil {
		return nil
	}
	return slices.Clone(d.log)
}

// Ask returns the answer to a question of the log so far.
func (d *Desk) Ask(question string) (string, api.Errno) {
	if d == nil {
		return "", api.ErrNil
	}
	return Ask(d.house, d.log, question)
}
