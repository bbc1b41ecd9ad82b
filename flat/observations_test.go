package flat_test

import (
	"slices"
	"testing"

	"keyhole/api"
	"keyhole/flat"
)

// observations returns all observations with at most three outputs of a few values, and a few times.
func observations() []api.Observation {
	values := []int{-1 << 63, -1, 0, 7}
	lists := [][]int{nil}
	for i := 0; len(lists[i]) < 3; i++ {
		for _, v := range values {
			lists = append(lists, append(slices.Clone(lists[i]), v))
		}
	}
	var all []api.Observation
	for _, list := range lists {
		for _, time := range []int{0, 3, 1<<63 - 1} {
			all = append(all, api.Observation{Outputs: list, Time: time})
		}
	}
	return all
}

func TestP17_5Compare(t *testing.T) {
	o := func(time int, outputs ...int) api.Observation { return api.Observation{Outputs: outputs, Time: time} }
	for i, c := range []struct {
		a, b api.Observation
		want int
	}{
		{o(0), o(0), 0}, {o(0), o(1), -1}, {o(9), o(0, 1), -1}, {o(9, 1), o(0, 1, 0), -1}, {o(9, 1, 5), o(0, 2), -1}, {o(5, 1, 2), o(5, 1, 2), 0}, {o(6, 1, 2), o(5, 1, 2), 1}, {o(0, 3), o(0, -3), 1}, {o(0, -1<<63), o(0, 1<<63-1), -1}, {o(-1 << 63), o(1<<63 - 1), -1},
		{api.Observation{Outputs: []int{}, Time: 4}, o(4), 0},
	} {
		if got := flat.Compare(c.a, c.b); got != c.want {
			t.Errorf("%d: Compare = %d, want %d", i, got, c.want)
		}
		if got := flat.Compare(c.b, c.a); got != -c.want {
			t.Errorf("%d: Compare the other way round = %d, want %d", i, got, -c.want)
		}
	}
}

// TestP17_5Order asks for all pairs whether the order is that of the ranks after sorting, so that it is total and transitive.
func TestP17_5Order(t *testing.T) {
	all := observations()
	newGenerator(175).Shuffle(len(all), func(i, k int) { all[i], all[k] = all[k], all[i] })
	slices.SortFunc(all, flat.Compare)
	for i, a := range all {
		for k, b := range all {
			want := 0
			if i < k {
				want = -1
			} else if i > k {
				want = 1
			}
			if got := flat.Compare(a, b); got != want || (got == 0) != equalSeen(a, b) {
				t.Fatalf("Compare(%v, %v) = %d, want %d", a, b, got, want)
			}
			if before := isBefore(a, b); before != (want < 0) {
				t.Fatalf("%v is before %v: %v", a, b, before)
			}
		}
	}
}

// isBefore follows the sentence about Compare.
func isBefore(a, b api.Observation) bool {
	for i, v := range a.Outputs {
		if i == len(b.Outputs) {
			return false
		}
		if v != b.Outputs[i] {
			return v < b.Outputs[i]
		}
	}
	return len(a.Outputs) < len(b.Outputs) || a.Time < b.Time
}

func TestP17_5Seen(t *testing.T) {
	for _, o := range observations() {
		before := clone(o, false)
		timed, untimed := flat.Seen(o, true), flat.Seen(o, false)
		if !equalSeen(timed, o) || !equalSeen(untimed, api.Observation{Outputs: o.Outputs}) {
			t.Fatalf("Seen of %v is %v and %v", o, timed, untimed)
		}
		for _, seen := range []api.Observation{timed, untimed} {
			for i := range seen.Outputs {
				seen.Outputs[i] = 99
			}
		}
		if !equalSeen(o, before) {
			t.Fatalf("the argument is changed: %v", o)
		}
	}
}

func TestP17_9Settled(t *testing.T) {
	for i, c := range []struct {
		bounds     []int
		time, want int
	}{
		{nil, 5, 5}, {[]int{}, -5, -5}, {[]int{5}, 5, 5}, {[]int{4}, 5, 5}, {[]int{6}, 5, 6}, {[]int{9, 7, 8}, 7, 7}, {[]int{9, 7, 8}, 8, 8}, {[]int{9, 7, 8}, -1, 7}, {[]int{9, 7, 8}, 10, 10}, {[]int{7, 7, 7}, 3, 7}, {[]int{-3, -9}, -8, -3}, {[]int{1<<63 - 1}, -1 << 63, 1<<63 - 1}, {[]int{-1 << 63}, -1 << 63, -1 << 63},
		{[]int{4, 10, 20}, 8, 10},
	} {
		if got := flat.Settled(c.bounds, c.time); got != c.want {
			t.Errorf("%d: Settled = %d, want %d", i, got, c.want)
		}
	}
	g := newGenerator(179)
	for range 3000 {
		var bounds []int
		for range g.Intn(6) {
			bounds = append(bounds, g.Intn(41)-20)
		}
		last := -100
		for time := -25; time <= 25; time++ {
			got := flat.Settled(bounds, time)
			if got < time || flat.Settled(bounds, got) != got || got < last || got != time && !slices.Contains(bounds, got) {
				t.Fatalf("Settled(%v, %d) = %d, of the time before %d", bounds, time, got, last)
			}
			for _, b := range bounds {
				if b >= time && b < got || b == time && got != time {
					t.Fatalf("Settled(%v, %d) = %d", bounds, time, got)
				}
			}
			if got == time && !slices.Contains(bounds, time) && slices.ContainsFunc(bounds, func(b int) bool { return b > time }) {
				t.Fatalf("Settled(%v, %d) = %d", bounds, time, got)
			}
			last = got
		}
	}
}

// usesOf returns the variables that the terms of a program mention.
func usesOf(f api.Flat) map[int]bool {
	used := map[int]bool{}
	for _, t := range terms(&f) {
		if t.Op == api.OpRef {
			used[t.N] = true
		}
	}
	return used
}

// TestP17_8Unused changes the values of inputs that nothing mentions, and leaves such inputs out.
func TestP17_8Unused(t *testing.T) {
	g := newGenerator(178)
	changed, removed := 0, 0
	for range 12000 {
		f := g.program()
		in := g.inputs(f)
		want, code := flat.Run(f, in)
		used := usesOf(f)
		last := len(f.Vars) - 1
		if code != api.OK {
			continue
		}
		other := clone(in, false)
		lists := map[api.Kind][]int{api.Secret: other.Secret, api.Public: other.Public, api.Random: other.Random}
		for i, v := range f.Vars {
			list := lists[v.Kind]
			if v.Kind == api.Local {
				continue
			}
			if !used[i] {
				list[0] = v.Low + g.Intn(v.High-v.Low+1)
				changed++
			}
			lists[v.Kind] = list[1:]
		}
		if got, code := flat.Run(f, other); !equalSeen(got, want) || code != api.OK {
			t.Fatalf("Run = %v, %d, with other inputs %v: %v, %v, %+v", want, code, got, in, other, f)
		}
		if last < 0 || used[last] || f.Vars[last].Kind == api.Local {
			continue
		}
		without, fewer := f, clone(in, false)
		without.Vars = f.Vars[:last]
		for kind, list := range map[api.Kind]*[]int{api.Secret: &fewer.Secret, api.Public: &fewer.Public, api.Random: &fewer.Random} {
			if kind == f.Vars[last].Kind {
				*list = (*list)[:len(*list)-1]
			}
		}
		if got, code := flat.Run(without, fewer); !equalSeen(got, want) || code != api.OK {
			t.Fatalf("Run = %v, without the last input %v, %d: %v, %+v", want, got, code, in, f)
		}
		removed++
	}
	if changed < 3000 || removed < 1000 {
		t.Errorf("only %d inputs changed, %d left out", changed, removed)
	}
}
