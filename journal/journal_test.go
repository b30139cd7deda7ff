package journal

import (
	"hash/fnv"
	"strings"
	"testing"
)

const most = 1<<63 - 1

// sumOf tells a text's sum by the library: it is FNV-1a of 32 bits.
func sumOf(text string) int {
	h := fnv.New32a()
	h.Write([]byte(text))
	return int(h.Sum32())
}

func check(t *testing.T, j *Journal, want string) {
	t.Helper()
	if text := j.Text(); text != want {
		t.Errorf("Text() = %q, want %q", text, want)
	}
	if sum := j.Sum(); sum != sumOf(want) {
		t.Errorf("Sum() behind %q = %d, want %d", want, sum, sumOf(want))
	}
}

func TestNoLines(t *testing.T) {
	j := &Journal{}
	check(t, j, "")
	if j.Sum() != 2166136261 {
		t.Errorf("Sum() of no lines = %d, want 2166136261", j.Sum())
	}
}

func TestEachLine(t *testing.T) {
	j := &Journal{}
	log := ""
	for _, c := range []struct {
		lay  func()
		line string
	}{
		{func() { j.Mint(7, 1, 3, 100) }, "7:mint 1 3 100;"},
		{func() { j.Revoke(1, 20) }, "1:revoke 20;"},
		{func() { j.Publish(2, "x", 9) }, "2:publish x 9;"},
		{func() { j.Yank(30, "abcd", 1, false) }, "30:yank abcd 1;"},
		{func() { j.Yank(30, "abcd", 1, true) }, "30:back abcd 1;"},
		{func() { j.Grant(3, "y", "beta") }, "3:grant y beta;"},
		{func() { j.Grant(3, "y", "beta") }, "3:grant y beta;"},
	} {
		c.lay()
		log += c.line
		check(t, j, log)
	}
}

func TestManyDigits(t *testing.T) {
	j := &Journal{}
	j.Mint(most, most-1, 1, most-7)
	j.Revoke(1000000, 1<<62)
	check(t, j, "9223372036854775807:mint 9223372036854775806 1 9223372036854775800;1000000:revoke 4611686018427387904;")
}

func TestSums(t *testing.T) {
	for _, c := range []struct {
		text string
		want int
	}{
		{"", 2166136261}, {"a", 3826002220}, {"foobar", 3214735720},
		{"\x00", 84696351}, {"\xff", 2047574606}, {strings.Repeat("\xff\x00", 5000), 848107685},
	} {
		j := &Journal{text: []byte(c.text)}
		if sum := j.Sum(); sum != c.want || sum != sumOf(c.text) {
			t.Errorf("Sum() of %.20q = %d, want %d", c.text, sum, c.want)
		}
	}
}

// What was told stays as it was, whatever comes behind it.
func TestToldStays(t *testing.T) {
	j := &Journal{}
	var told, want []string
	log := ""
	for range 1000 {
		j.Yank(1, "x", 2, false)
		log += "1:yank x 2;"
		told, want = append(told, j.Text()), append(want, log)
	}
	for i := range told {
		if told[i] != want[i] {
			t.Fatalf("text %d is %q, want %q", i, told[i], want[i])
		}
	}
}

func TestJournalsApart(t *testing.T) {
	one, other := &Journal{}, &Journal{}
	one.Revoke(1, 2)
	check(t, other, "")
	other.Revoke(3, 4)
	one.Grant(5, "x", "c")
	check(t, one, "1:revoke 2;5:grant x c;")
	check(t, other, "3:revoke 4;")
}
