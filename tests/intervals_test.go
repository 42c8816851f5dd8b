package tests

import (
	"math"
	"testing"

	"loop.example/musicengine/impl"
)

// plainSteps holds the half tones from C up 0 to 21 steps without alterations, written out so that the tests do not depend on the program's formula.
var plainSteps = []int{0, 2, 4, 5, 7, 9, 11, 12, 14, 16, 17, 19, 21, 23, 24, 26, 28, 29, 31, 33, 35, 36}

var octave = impl.Interval{Steps: 7, Halves: 12}

// validIntervals holds every valid interval with its quality: those up, and the same ones with both signs changed.
func validIntervals() map[impl.Interval]int {
	all := map[impl.Interval]int{}
	for steps, plain := range plainSteps {
		for quality := -3; quality <= 3; quality++ {
			if steps > 0 || quality >= 0 {
				all[impl.Interval{Steps: steps, Halves: plain + quality}] = quality
				all[impl.Interval{Steps: -steps, Halves: -plain - quality}] = quality
			}
		}
	}
	return all
}

// badIntervals are invalid: too many steps, or too many or too few half tones.
func badIntervals() []impl.Interval {
	valid := validIntervals()
	var list []impl.Interval
	add := func(steps int, halves int) {
		v := impl.Interval{Steps: steps, Halves: halves}
		if _, ok := valid[v]; !ok {
			list = append(list, v)
		}
	}
	for steps := -50; steps <= 50; steps++ {
		for halves := -100; halves <= 100; halves++ {
			add(steps, halves)
		}
	}
	for _, far := range farNumbers {
		for near := -45; near <= 45; near++ {
			add(far, near)
			add(near, far)
			// These wrap around to numbers within the limits if something near is added to them.
			add(near, math.MinInt+45+near)
			add(near, math.MaxInt-45+near)
		}
		for _, other := range farNumbers {
			add(far, other)
		}
	}
	return list
}

func plus(a impl.Interval, b impl.Interval) impl.Interval {
	return impl.Interval{Steps: a.Steps + b.Steps, Halves: a.Halves + b.Halves}
}

func negative(v impl.Interval) impl.Interval {
	return impl.Interval{Steps: -v.Steps, Halves: -v.Halves}
}

// wayBetween is the difference of places and keys, counted without the program.
func wayBetween(a impl.Pitch, b impl.Pitch) impl.Interval {
	return impl.Interval{
		Steps:  7*(b.Octave-a.Octave) + b.Step - a.Step,
		Halves: 12*(b.Octave-a.Octave) + stepKeys[b.Step] - stepKeys[a.Step] + b.Alter - a.Alter,
	}
}

func readPitch(t *testing.T, s string) impl.Pitch {
	t.Helper()
	p, ok := impl.ReadPitch(s)
	if !ok {
		t.Fatal(s)
	}
	return p
}

func TestP1IntervalsLeadToPitches(t *testing.T) {
	valid := validIntervals()
	found := 0
	for _, a := range allPitches() {
		for _, b := range allPitches() {
			want := wayBetween(a, b)
			v, ok := impl.IntervalOf(a, b)
			if _, near := valid[want]; !near {
				if ok || v != (impl.Interval{}) {
					t.Fatal(a, b, v, ok)
				}
				continue
			}
			found++
			if !ok || v != want {
				t.Fatal(a, b, v, ok, want)
			}
			if p, ok := impl.AddInterval(a, v); !ok || p != b {
				t.Fatal(a, b, v, p, ok)
			}
			if p, ok := impl.AddInterval(b, impl.IntervalBack(v)); !ok || p != a {
				t.Fatal(a, b, v, p, ok)
			}
			if back, ok := impl.IntervalOf(b, a); !ok || back != impl.IntervalBack(v) {
				t.Fatal(a, b, v, back, ok)
			}
		}
	}
	if found == 0 || found == 315*315 {
		t.Fatal(found)
	}
}

func TestP1IntervalsByName(t *testing.T) {
	cases := []struct {
		from, to string
		v        impl.Interval
		ok       bool
	}{
		{"C4", "G4", impl.Interval{Steps: 4, Halves: 7}, true},
		{"G4", "C4", impl.Interval{Steps: -4, Halves: -7}, true},
		{"C4", "C4", impl.Interval{}, true},
		{"Cbb0", "Cbb0", impl.Interval{}, true},
		{"B3", "C4", impl.Interval{Steps: 1, Halves: 1}, true},
		{"C4", "B3", impl.Interval{Steps: -1, Halves: -1}, true},
		{"E#4", "Fb4", impl.Interval{Steps: 1, Halves: -1}, true}, // a step up, and a half tone down
		{"Fb4", "E#4", impl.Interval{Steps: -1, Halves: 1}, true},
		{"E##4", "Fb4", impl.Interval{}, false},
		{"Fb4", "E##4", impl.Interval{}, false},
		{"B##3", "Cb4", impl.Interval{}, false},
		{"C#4", "Cb4", impl.Interval{Steps: 0, Halves: -2}, true}, // no steps, and down
		{"C##4", "Cb4", impl.Interval{Steps: 0, Halves: -3}, true},
		{"Cb4", "C##4", impl.Interval{Steps: 0, Halves: 3}, true},
		{"C##4", "Cbb4", impl.Interval{}, false},
		{"Cbb4", "C##4", impl.Interval{}, false},
		{"C4", "C7", impl.Interval{Steps: 21, Halves: 36}, true}, // MaxSteps
		{"C7", "C4", impl.Interval{Steps: -21, Halves: -36}, true},
		{"Cb4", "C##7", impl.Interval{Steps: 21, Halves: 39}, true},
		{"C##7", "Cb4", impl.Interval{Steps: -21, Halves: -39}, true},
		{"C##4", "Cb7", impl.Interval{Steps: 21, Halves: 33}, true},
		{"Cbb4", "C##7", impl.Interval{}, false},
		{"C4", "D7", impl.Interval{}, false}, // a step too far
		{"D7", "C4", impl.Interval{}, false},
		{"B##8", "Cbb0", impl.Interval{}, false},
		{"Cbb0", "B##8", impl.Interval{}, false},
		{"B8", "B##8", impl.Interval{Steps: 0, Halves: 2}, true}, // above the last key
		{"C0", "Cbb0", impl.Interval{Steps: 0, Halves: -2}, true},
	}
	for _, c := range cases {
		v, ok := impl.IntervalOf(readPitch(t, c.from), readPitch(t, c.to))
		if v != c.v || ok != c.ok {
			t.Fatal(c, v, ok)
		}
	}
}

func TestP1InvalidPitches(t *testing.T) {
	good := []impl.Pitch{{}, {Step: 3, Alter: 1, Octave: 4}, {Step: 6, Alter: 2, Octave: 8}}
	for _, bad := range badPitches() {
		for _, p := range append(good, bad) {
			for _, pair := range [][2]impl.Pitch{{p, bad}, {bad, p}} {
				if v, ok := impl.IntervalOf(pair[0], pair[1]); ok || v != (impl.Interval{}) {
					t.Fatal(pair, v, ok)
				}
			}
		}
	}
}

func TestP18IntervalsHaveTwoDirections(t *testing.T) {
	if impl.MaxSteps != 21 {
		t.Fatal(impl.MaxSteps)
	}
	valid := validIntervals()
	if want := 7 + 2*21*7; len(valid) != want {
		t.Fatal(len(valid), want)
	}
	for v := range valid {
		if !impl.IntervalValid(v) || !impl.IntervalValid(negative(v)) {
			t.Fatal(v)
		}
	}
	for _, v := range badIntervals() {
		if impl.IntervalValid(v) || impl.IntervalValid(negative(v)) {
			t.Fatal(v)
		}
	}
}

func TestP18LimitsOfIntervals(t *testing.T) {
	cases := map[impl.Interval]bool{
		{}:                                           true,
		{Steps: 0, Halves: 3}:                        true,
		{Steps: 0, Halves: 4}:                        false,
		{Steps: 0, Halves: -3}:                       true,
		{Steps: 0, Halves: -4}:                       false,
		{Steps: 1, Halves: -1}:                       true,
		{Steps: 1, Halves: -2}:                       false, // without its sign it would be a whole tone
		{Steps: -1, Halves: 1}:                       true,
		{Steps: -1, Halves: 2}:                       false,
		{Steps: 2, Halves: -4}:                       false,
		{Steps: -2, Halves: 4}:                       false,
		{Steps: 21, Halves: 33}:                      true,
		{Steps: 21, Halves: 39}:                      true,
		{Steps: 21, Halves: 32}:                      false,
		{Steps: 21, Halves: 40}:                      false,
		{Steps: -21, Halves: -33}:                    true,
		{Steps: -21, Halves: -39}:                    true,
		{Steps: -21, Halves: -32}:                    false,
		{Steps: -21, Halves: -40}:                    false,
		{Steps: 22, Halves: 38}:                      false,
		{Steps: -22, Halves: -38}:                    false,
		{Steps: 21, Halves: math.MaxInt}:             false,
		{Steps: 21, Halves: math.MinInt}:             false,
		{Steps: -21, Halves: math.MinInt}:            false,
		{Steps: 0, Halves: math.MinInt}:              false,
		{Steps: 0, Halves: math.MaxInt}:              false,
		{Steps: math.MinInt, Halves: 0}:              false,
		{Steps: math.MaxInt, Halves: 0}:              false,
		{Steps: math.MinInt, Halves: math.MinInt}:    false,
		{Steps: math.MaxInt, Halves: math.MaxInt}:    false,
		{Steps: math.MinInt, Halves: math.MaxInt}:    false,
		{Steps: math.MaxInt, Halves: math.MinInt}:    false,
		{Steps: -21, Halves: math.MinInt + 36}:       false,
		{Steps: 21, Halves: math.MinInt + 36}:        false,
		{Steps: 21, Halves: math.MaxInt - 36 - 3}:    false,
		{Steps: 0, Halves: math.MinInt + 1}:          false,
		{Steps: math.MinInt + 1, Halves: -36}:        false,
		{Steps: math.MinInt + 21, Halves: -36}:       false,
		{Steps: math.MaxInt - 21, Halves: 1<<62 + 3}: false,
	}
	for v, want := range cases {
		if impl.IntervalValid(v) != want {
			t.Fatal(v, want)
		}
	}
}

func TestP19AddedIntervalsAreIntervals(t *testing.T) {
	type spot struct{ place, key int }
	pitchAt := map[spot]impl.Pitch{}
	for _, p := range allPitches() {
		pitchAt[spot{7*p.Octave + p.Step, 12*p.Octave + stepKeys[p.Step] + p.Alter}] = p
	}
	for at, p := range pitchAt {
		for v := range validIntervals() {
			want, exists := pitchAt[spot{at.place + v.Steps, at.key + v.Halves}]
			q, ok := impl.AddInterval(p, v)
			if ok != exists || q != want {
				t.Fatal(p, v, q, ok, want)
			}
			if !ok {
				continue
			}
			if between, ok := impl.IntervalOf(p, q); !ok || between != v {
				t.Fatal(p, v, q, between, ok)
			}
			if back, ok := impl.AddInterval(q, impl.IntervalBack(v)); !ok || back != p {
				t.Fatal(p, v, q, back, ok)
			}
		}
	}
}

func TestP19AddedIntervalsByName(t *testing.T) {
	cases := []struct {
		from          string
		steps, halves int
		to            string // empty where no valid pitch is reached
	}{
		{"E4", 2, 4, "G#4"},
		{"C4", -1, -1, "B3"},
		{"C4", -1, 1, "B##3"}, // a step down, and a half tone up
		{"C4", 1, -1, ""},
		{"E#4", 1, -1, "Fb4"},
		{"C4", 0, 0, "C4"},
		{"C4", 0, -2, "Cbb4"},
		{"C4", 0, -3, ""},
		{"C#4", 0, -3, "Cbb4"},
		{"Cb4", 0, 3, "C##4"},
		{"C##4", 0, 1, ""},
		{"C4", 21, 36, "C7"},
		{"C7", -21, -36, "C4"},
		{"F5", 21, 37, "F#8"},
		{"F5", 21, 38, "F##8"},
		{"F5", 21, 39, ""},
		{"B8", 1, 1, ""}, // beyond the last octave
		{"B8", 1, -1, ""},
		{"B##8", 7, 12, ""},
		{"C0", -1, -1, ""}, // beyond the first one
		{"C0", -1, 1, ""},
		{"F0", -7, -12, ""},
		{"C0", -21, -36, ""},
		{"B8", 0, 2, "B##8"},
		{"C0", 0, -2, "Cbb0"},
		{"C1", -7, -14, "Cbb0"},
	}
	for _, c := range cases {
		want := impl.Pitch{}
		if c.to != "" {
			want = readPitch(t, c.to)
		}
		p, ok := impl.AddInterval(readPitch(t, c.from), impl.Interval{Steps: c.steps, Halves: c.halves})
		if ok != (c.to != "") || p != want {
			t.Fatal(c, p, ok)
		}
	}
}

func TestP19InvalidArguments(t *testing.T) {
	// From each of these there is a pitch at many an invalid interval, too.
	good := []impl.Pitch{{Alter: -2}, {Alter: 2, Octave: 4}, {Step: 6, Alter: 2, Octave: 8}}
	for _, v := range badIntervals() {
		for _, p := range good {
			if q, ok := impl.AddInterval(p, v); ok || q != (impl.Pitch{}) {
				t.Fatal(p, v, q, ok)
			}
		}
	}
	ways := []impl.Interval{{}, {Steps: 1, Halves: 2}, {Steps: -1, Halves: -2}, {Steps: 7, Halves: 12}, {Steps: -21, Halves: -36}, {Steps: 0, Halves: 1}, {Steps: 22, Halves: 38}}
	for _, p := range badPitches() {
		for _, v := range ways {
			if q, ok := impl.AddInterval(p, v); ok || q != (impl.Pitch{}) {
				t.Fatal(p, v, q, ok)
			}
		}
	}
}

func TestP20QualitiesDoNotDependOnOctaves(t *testing.T) {
	valid := validIntervals()
	for v, want := range valid {
		if impl.IntervalQuality(v) != want || impl.IntervalQuality(impl.IntervalBack(v)) != want {
			t.Fatal(v, impl.IntervalQuality(v), want)
		}
		wider := plus(v, octave)
		if v.Steps < 0 || v.Steps == 0 && v.Halves < 0 {
			wider = plus(v, negative(octave))
		}
		if _, ok := valid[wider]; ok != (v.Steps >= -14 && v.Steps <= 14) {
			t.Fatal(v, wider)
		} else if ok && impl.IntervalQuality(wider) != want {
			t.Fatal(v, wider, impl.IntervalQuality(wider), want)
		}
	}
	for _, v := range badIntervals() {
		if impl.IntervalQuality(v) != -9 {
			t.Fatal(v, impl.IntervalQuality(v))
		}
	}
}

func TestP20QualitiesByName(t *testing.T) {
	cases := map[impl.Interval]int{
		{}:                        0,
		{Steps: 2, Halves: 3}:     -1,
		{Steps: 2, Halves: 4}:     0,
		{Steps: -2, Halves: -3}:   -1,
		{Steps: -4, Halves: -7}:   0,
		{Steps: 3, Halves: 6}:     1,
		{Steps: -3, Halves: -6}:   1,
		{Steps: 1, Halves: -1}:    -3,
		{Steps: -1, Halves: 1}:    -3,
		{Steps: 0, Halves: 1}:     1,
		{Steps: 0, Halves: -1}:    1, // a way down
		{Steps: 0, Halves: -3}:    3,
		{Steps: 7, Halves: 12}:    0,
		{Steps: 7, Halves: 11}:    -1,
		{Steps: -7, Halves: -13}:  1,
		{Steps: 21, Halves: 36}:   0,
		{Steps: 21, Halves: 39}:   3,
		{Steps: -21, Halves: -33}: -3,
		{Steps: 1, Halves: 9}:     -9,
		{Steps: 0, Halves: 4}:     -9,
		{Steps: 0, Halves: -4}:    -9,
		{Steps: 1, Halves: -2}:    -9,
		{Steps: -1, Halves: 2}:    -9,
		{Steps: 22, Halves: 38}:   -9,
		{Steps: -22, Halves: -38}: -9,
	}
	for v, want := range cases {
		if impl.IntervalQuality(v) != want {
			t.Fatal(v, impl.IntervalQuality(v), want)
		}
	}
}

func TestP21WaysBackLeadBack(t *testing.T) {
	for v := range validIntervals() {
		back := impl.IntervalBack(v)
		if back != negative(v) || impl.IntervalBack(back) != v {
			t.Fatal(v, back, impl.IntervalBack(back))
		}
	}
	for _, v := range badIntervals() {
		if back := impl.IntervalBack(v); back != (impl.Interval{}) {
			t.Fatal(v, back)
		}
	}
	cases := map[impl.Interval]impl.Interval{
		{}:                        {},
		{Steps: 2, Halves: 4}:     {Steps: -2, Halves: -4},
		{Steps: -2, Halves: -4}:   {Steps: 2, Halves: 4},
		{Steps: 0, Halves: -3}:    {Steps: 0, Halves: 3},
		{Steps: 1, Halves: -1}:    {Steps: -1, Halves: 1},
		{Steps: 21, Halves: 39}:   {Steps: -21, Halves: -39},
		{Steps: 0, Halves: -4}:    {},
		{Steps: 22, Halves: 38}:   {},
		{Steps: -22, Halves: -38}: {},
	}
	for v, want := range cases {
		if back := impl.IntervalBack(v); back != want {
			t.Fatal(v, back, want)
		}
	}
}

func TestP22RestsMakeOctaves(t *testing.T) {
	valid := validIntervals()
	for v := range valid {
		want := plus(octave, negative(v))
		_, possible := valid[want]
		possible = possible && v.Steps >= 0 && v.Steps <= 7
		rest, ok := impl.IntervalRest(v)
		if !possible {
			if ok || rest != (impl.Interval{}) {
				t.Fatal(v, rest, ok)
			}
			continue
		}
		if !ok || rest != want || plus(rest, v) != octave {
			t.Fatal(v, rest, ok, want)
		}
		if again, ok := impl.IntervalRest(rest); !ok || again != v {
			t.Fatal(v, rest, again, ok)
		}
	}
	for _, v := range badIntervals() {
		if rest, ok := impl.IntervalRest(v); ok || rest != (impl.Interval{}) {
			t.Fatal(v, rest, ok)
		}
	}
}

func TestP22RestsByName(t *testing.T) {
	cases := []struct {
		steps, halves int
		rest          impl.Interval
		ok            bool
	}{
		{0, 0, impl.Interval{Steps: 7, Halves: 12}, true}, // of a unison
		{7, 12, impl.Interval{}, true},                    // of an octave
		{2, 4, impl.Interval{Steps: 5, Halves: 8}, true},
		{4, 7, impl.Interval{Steps: 3, Halves: 5}, true},
		{0, 3, impl.Interval{Steps: 7, Halves: 9}, true},
		{0, -3, impl.Interval{Steps: 7, Halves: 15}, true},
		{7, 15, impl.Interval{Steps: 0, Halves: -3}, true},
		{1, -1, impl.Interval{Steps: 6, Halves: 13}, true},
		{6, 13, impl.Interval{Steps: 1, Halves: -1}, true},
		{1, 4, impl.Interval{Steps: 6, Halves: 8}, true},
		{1, 5, impl.Interval{}, false}, // the rest would have the quality -4
		{2, 7, impl.Interval{}, false},
		{5, 12, impl.Interval{}, false},
		{6, 14, impl.Interval{}, false},
		{8, 14, impl.Interval{}, false},
		{8, 12, impl.Interval{}, false},
		{-1, -1, impl.Interval{}, false},
		{-1, 1, impl.Interval{}, false},
		{-7, -12, impl.Interval{}, false},
		{14, 24, impl.Interval{}, false},
		{0, 4, impl.Interval{}, false},
		{0, -4, impl.Interval{}, false},
		{7, 16, impl.Interval{}, false},
		{7, 8, impl.Interval{}, false},
	}
	for _, c := range cases {
		rest, ok := impl.IntervalRest(impl.Interval{Steps: c.steps, Halves: c.halves})
		if rest != c.rest || ok != c.ok {
			t.Fatal(c, rest, ok)
		}
	}
}
