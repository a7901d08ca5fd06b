package house

import (
	"strconv"
	"strings"

	"criadera/api"
	"criadera/checks"
)

// sumOfNone is the sum of no entries.
const sumOfNone = 1

// sumWith is the sum of entries and of one more behind them.
func sumWith(sum int, x api.HouseEntry) int {
	for _, c := range []byte(x.By + "\n" + x.Text + "\n") {
		sum = (257*sum + int(c) + 1) % api.HousePrime
	}
	return sum
}

// lineWith is the line of an entry in a journal, without its end; the sum is that up to the entry.
func lineWith(sum int, x api.HouseEntry) string {
	return strconv.Itoa(sum) + " " + x.By + " " + x.Text
}

// entriesError is the error of entries, whatever they mean.
func entriesError(log []api.HouseEntry) api.Errno {
	if len(log) > api.MaxHouseLog {
		return api.ErrLarge
	}
	_, e := checks.Each(len(log), func(n int) api.Errno {
		x := log[n]
		isFormed := x.By != "" && !strings.ContainsAny(x.By, " \n") && !strings.Contains(x.Text, "\n")
		return checks.First(
			checks.Unless(isFormed, api.ErrForm),
			checks.Unless(len(x.Text) <= api.MaxHouseText, api.ErrLarge))
	})
	return e
}

// Sum returns the sum of a log.
func Sum(log []api.HouseEntry) (int, api.Errno) {
	if e := entriesError(log); e != api.OK {
		return 0, e
	}
	sum := sumOfNone
	for _, x := range log {
		sum = sumWith(sum, x)
	}
	return sum, api.OK
}

// Journal returns the journal of a log.
func Journal(log []api.HouseEntry) (string, api.Errno) {
	if e := entriesError(log); e != api.OK {
		return "", e
	}
	var t strings.Builder
	sum := sumOfNone
	for _, x := range log {
		sum = sumWith(sum, x)
		t.WriteString(lineWith(sum, x) + "\n")
	}
	return t.String(), api.OK
}

// Recover returns the entries of all lines of a journal that are whole and right, from the first one on, and how many bytes these lines have.
func Recover(journal string) ([]api.HouseEntry, int, api.Errno) {
	if len(journal) > api.MaxHouseJournal {
		return nil, 0, api.ErrLarge
	}
	var log []api.HouseEntry
	sum, read := sumOfNone, 0
	for len(log) < api.MaxHouseLog {
		line, _, isWhole := strings.Cut(journal[read:], "\n")
		x, isEntry := entryOf(line)
		sum = sumWith(sum, x)
		if !isWhole || !isEntry || line != lineWith(sum, x) {
			break
		}
		log = append(log, x)
		read += len(line) + 1
	}
	return log, read, api.OK
}

// entryOf is the entry that a line of a journal tells, whatever its sum is, and whether there is one.
func entryOf(line string) (api.HouseEntry, bool) {
	words := strings.SplitN(line, " ", 3)
	if len(words) < 3 {
		return api.HouseEntry{}, false
	}
	x := api.HouseEntry{By: words[1], Text: words[2]}
	return x, entriesError([]api.HouseEntry{x}) == api.OK
}
