package corners

import (
	"math/rand"
	"slices"
	"testing"
)

// comesTo is the sum of all numbers, each one so many times.
func comesTo(l, times []int) int {
	sum := 0
	for i, n := range l {
		sum += n * times[i]
	}
	return sum
}

// isProved tells whether a corner keeps all conditions, and its weights prove that nothing that keeps them is worth less.
func isProved(t Task, c Corner) bool {
	ok := c.Den > 0 && comesTo(t.One, c.Parts) == c.Den && comesTo(t.Worth, c.Parts) == c.Value && slices.Min(c.Parts) >= 0
	ok = ok && len(c.Parts) == len(t.One) && len(c.Weights) == len(t.Planes)
	for n, plane := range t.Planes {
		ok = ok && comesTo(plane, c.Parts) <= 0 && c.Weights[n] >= 0
	}
	for i, one := range t.One {
		sum := t.Worth[i] * c.Den
		for n, plane := range t.Planes {
			sum += c.Weights[n] * plane[i]
		}
		ok = ok && sum >= c.Value*one
	}
	return ok
}

func TestLeast(t *testing.T) {
	for _, x := range []struct {
		what string
		task Task
		c    Corner
	}{
		{"one number", Task{One: []int{1}, Worth: []int{-7}}, Corner{Den: 1, Value: -7, Parts: []int{1}}},
		{"one number, counted twice", Task{One: []int{2}, Worth: []int{7}}, Corner{Den: 2, Value: 7, Parts: []int{1}}},
		{"no planes", Task{One: []int{1, 1, 1}, Worth: []int{5, 3, 4}}, Corner{Den: 1, Value: 3, Parts: []int{0, 1, 0}}},
		{"half of it", Task{One: []int{1, 1}, Planes: [][]int{{1, -1}}, Worth: []int{10, 50}}, Corner{Den: 2, Value: 60, Parts: []int{1, 1}, Weights: []int{40}}},
		{"a plane that does nothing", Task{One: []int{1, 1}, Planes: [][]int{{-1, -1}}, Worth: []int{10, 50}}, Corner{Den: 1, Value: 10, Parts: []int{1, 0}, Weights: []int{0}}},
		{"two planes that leave one place", Task{One: []int{1, 1}, Planes: [][]int{{1, -3}, {-1, 3}}, Worth: []int{1, 1}}, Corner{Den: 4, Value: 4, Parts: []int{3, 1}, Weights: []int{0, 0}}},
		{"a number without a greatest one", Task{One: []int{1, 0}, Planes: [][]int{{3, -1}, {1, -2}}, Worth: []int{0, 1}}, Corner{Den: 1, Value: 3, Parts: []int{1, 3}, Weights: []int{1, 0}}},
		{"a number that is 1, another of 5 at most", Task{One: []int{1, 0}, Planes: [][]int{{-5, 1}}, Worth: []int{0, -3}}, Corner{Den: 1, Value: -15, Parts: []int{1, 5}, Weights: []int{3}}},
	} {
		c, ok := Least(x.task)
		if !ok || c.Den != x.c.Den || c.Value != x.c.Value || !slices.Equal(c.Parts, x.c.Parts) || !slices.Equal(c.Weights, x.c.Weights) {
			t.Errorf("%s: %+v, %v, want %+v", x.what, c, ok, x.c)
		}
		if !isProved(x.task, c) {
			t.Errorf("%s: %+v is not proved", x.what, c)
		}
	}
	for _, planes := range [][][]int{{{1, 1}}, {{1, -1}, {-1, 2}}, {{1, -1}, {-2, 3}, {0, 0}}} {
		if c, ok := Least(Task{One: []int{1, 1}, Planes: planes, Worth: []int{0, 0}}); ok || c.Den != 0 || c.Parts != nil || c.Weights != nil {
			t.Errorf("%v: %+v", planes, c)
		}
	}
}

// some is as many numbers of at most this size.
func some(r *rand.Rand, many, most int) []int {
	l := make([]int, 0, many)
	for range many {
		l = append(l, r.Intn(2*most+1)-most)
	}
	return l
}

// TestLeastOfSome: random planes, all of which permit some numbers that are known.
func TestLeastOfSome(t *testing.T) {
	r := rand.New(rand.NewSource(1))
	for range 20000 {
		many := 1 + r.Intn(5)
		task := Task{One: slices.Repeat([]int{1}, many), Worth: some(r, many, []int{2, 400}[r.Intn(2)])}
		known := make([]int, many)
		for i := range known {
			known[i] = r.Intn(4)
		}
		for range r.Intn(9) {
			if plane := some(r, many, []int{1, 3, 40}[r.Intn(3)]); comesTo(plane, known) <= 0 {
				task.Planes = append(task.Planes, plane)
			}
		}
		c, ok := Least(task)
		if slices.Max(known) > 0 && !ok || ok && !isProved(task, c) {
			t.Fatalf("%+v: %+v, %v", task, c, ok)
		}
	}
}

// TestLeastOfNone: planes whose sum is above 0 for each number permit none.
func TestLeastOfNone(t *testing.T) {
	r := rand.New(rand.NewSource(2))
	for range 5000 {
		many := 1 + r.Intn(5)
		last := make([]int, many)
		task := Task{One: slices.Repeat([]int{1}, many), Worth: some(r, many, 3)}
		for range r.Intn(7) {
			task.Planes = append(task.Planes, some(r, many, 5))
		}
		for i := range last {
			last[i] = 1 + r.Intn(3)*r.Intn(3)
			for _, plane := range task.Planes {
				last[i] -= plane[i]
			}
		}
		task.Planes = append(task.Planes, last)
		if c, ok := Least(task); ok {
			t.Fatalf("%+v: %+v", task, c)
		}
	}
}

// TestLeastOfBounded: the first number is 1, and each other one has a greatest one.
func TestLeastOfBounded(t *testing.T) {
	r := rand.New(rand.NewSource(3))
	found := 0
	for range 5000 {
		many := 2 + r.Intn(4)
		task := Task{One: make([]int, many), Worth: some(r, many, 20)}
		task.One[0] = 1
		for i := 1; i < many; i++ {
			plane := make([]int, many)
			plane[0], plane[i] = -r.Intn(50), 1
			task.Planes = append(task.Planes, plane)
		}
		for range r.Intn(4) {
			task.Planes = append(task.Planes, some(r, many, 20))
		}
		c, ok := Least(task)
		if ok && !isProved(task, c) {
			t.Fatalf("%+v: %+v", task, c)
		}
		if ok {
			found++
		}
	}
	if found < 1000 {
		t.Errorf("only %d tasks have numbers", found)
	}
}

// TestTaskStays: nothing is written into a task, and a corner shares no memory with it.
func TestTaskStays(t *testing.T) {
	task := Task{One: []int{1, 1, 1}, Planes: [][]int{{1, -1, 0}, {0, 1, -1}}, Worth: []int{1, 2, 3}}
	c, _ := Least(task)
	for _, l := range [][]int{c.Parts, c.Weights} {
		for i := range l {
			l[i] = 99
		}
	}
	if again, ok := Least(task); !ok || !isProved(task, again) || !slices.Equal(task.One, []int{1, 1, 1}) || !slices.Equal(task.Worth, []int{1, 2, 3}) {
		t.Errorf("%+v: %+v", task, again)
	}
}
