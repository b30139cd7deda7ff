package wants

import (
	"math/rand"
	"reflect"
	"regexp"
	"strings"
	"testing"
)

func TestWants(t *testing.T) {
	for _, c := range []struct {
		text string
		want []Want
	}{
		{"", nil},
		{"x 1-2", []Want{{"x", 1, 2}}},
		{"x 1-1", []Want{{"x", 1, 1}}},
		{"x 9-9", []Want{{"x", 9, 9}}},
		{"abcd/efgh 1-9", []Want{{"abcd/efgh", 1, 9}}},
		{"acme/x 2-4,y 3-5", []Want{{"acme/x", 2, 4}, {"y", 3, 5}}},
		{"y 3-5,acme/x 2-4", []Want{{"y", 3, 5}, {"acme/x", 2, 4}}},
		{"x 1-1,x 2-2,x 1-1", []Want{{"x", 1, 1}, {"x", 2, 2}, {"x", 1, 1}}},
		{"a 1-9,b 2-8,c 3-7,d 4-6,e 5-5,f 1-2", []Want{{"a", 1, 9}, {"b", 2, 8}, {"c", 3, 7}, {"d", 4, 6}, {"e", 5, 5}, {"f", 1, 2}}},
	} {
		list, ok := Parse(c.text)
		if !ok || !reflect.DeepEqual(list, c.want) {
			t.Errorf("Parse(%q) = %v, %v, want %v, true", c.text, list, ok, c.want)
		}
	}
}

func TestNoWants(t *testing.T) {
	for _, text := range []string{
		" ", ",", ",,", "x", "x ", "x 1", "x 1-", "x -1", "x -", "-", "1-2", " 1-2", "/ 1-2", "x1-2", "x  1-2", " x 1-2", "x 1-2 ", "x 1 -2", "x 1- 2",
		"x 2-1", "x 9-1", "x 0-1", "x 0-0", "x 1-0", "x 1-10", "x 01-2", "x 10-9", "x a-b", "x 1:2", "x 1-2-3", "x\t1-2", "x\x001-2", "x 1\xe2\x80\x932",
		"X 1-2", "abcde 1-2", "abcde/x 1-2", "x/abcde 1-2", "a/b/c 1-2", "/x 1-2", "x/ 1-2", "x1 1-2", "é 1-2",
		"x 1-2,", ",x 1-2", "x 1-2,,y 1-2", "x 1-2, y 1-2", "x 1-2 ,y 1-2", "x 1-2;y 1-2", "x 1-2y 1-2", "x 1-2,y 2-1", "x 2-1,y 1-2", "x 1-2\n",
		"x 1-1,x 1-1,x 1-1,x 1-1,x 1-1,x 1-1,x 1-1", "x 1-1,x 1-1,x 1-1,x 1-1,x 1-1,x 1-1,", strings.Repeat("x 1-1,", 1<<16) + "x 1-1",
		strings.Repeat("x", 1<<20), strings.Repeat(",", 1<<20), strings.Repeat("x", 1<<20) + " 1-2",
	} {
		list, ok := Parse(text)
		if ok || list != nil {
			t.Errorf("Parse(%.80q) = %v, %v, want nothing", text, list, ok)
		}
	}
}

const oneWant = `[a-z]{1,4}(/[a-z]{1,4})? [1-9]-[1-9]`

var form = regexp.MustCompile(`\A(` + oneWant + `(,` + oneWant + `){0,5})?\z`)

// isWants is another telling of what wants are. The form does not say that
// the first digit is not above the second.
func isWants(text string) bool {
	if !form.MatchString(text) {
		return false
	}
	for _, want := range strings.Split(text, ",") {
		if n := len(want); n > 0 && want[n-3] > want[n-1] {
			return false
		}
	}
	return true
}

// Right texts with some bytes changed, taken away or added, held against
// another telling of what wants are. Wants that are told make the text again.
func TestChangedTexts(t *testing.T) {
	r := rand.New(rand.NewSource(1))
	const bytes = "azA/, -019:\x00\xff"
	right := []string{"", "x 1-2", "acme/x 2-4", "abcd/abcd 9-9,y 1-9", "a 1-9,b 2-8,c 3-7,d 4-6,e 5-5,f 1-2"}
	seen := [2]int{}
	for range 200000 {
		text := []byte(right[r.Intn(len(right))])
		for range r.Intn(3) {
			place, b := r.Intn(len(text)+1), bytes[r.Intn(len(bytes))]
			tail := append([]byte{}, text[place:]...)
			switch r.Intn(3) {
			case 0:
				text = append(append(text[:place], b), tail...)
			case 1:
				if len(tail) > 0 {
					text = append(text[:place], tail[1:]...)
				}
			case 2:
				if len(tail) > 0 {
					text[place] = b
				}
			}
		}
		list, ok := Parse(string(text))
		if ok != isWants(string(text)) {
			t.Fatalf("Parse(%q) = %v, %v, want %v", text, list, ok, !ok)
		}
		if ok && written(list) != string(text) {
			t.Fatalf("Parse(%q) = %v", text, list)
		}
		if !ok && list != nil {
			t.Fatalf("Parse(%q) = %v, false, want nil", text, list)
		}
		if ok {
			seen[0]++
		} else {
			seen[1]++
		}
	}
	if seen[0] < 1000 || seen[1] < 1000 {
		t.Errorf("%d right and %d wrong texts are too few", seen[0], seen[1])
	}
}

func written(list []Want) string {
	texts := []string{}
	for _, w := range list {
		texts = append(texts, w.Name+" "+string(rune('0'+w.From))+"-"+string(rune('0'+w.To)))
	}
	return strings.Join(texts, ",")
}
