// Package journal: what was done in one house, a line for each deed.
package journal

import "strconv"

// The sum of no bytes, and what it goes on by with each byte.
const (
	firstSum = 2166136261
	factor   = 16777619
	modulus  = 1 << 32
)

// Journal is the lines of one house, at first none. They are kept as bytes: a
// text would be copied whole for each line that is laid behind it.
type Journal struct {
	text []byte
}

// Mint lays the line of a token that was minted. Here and below, by is the
// number of the token that was shown.
func (j *Journal) Mint(by int, fresh int, role int, until int) {
	j.begin(by, "mint")
	j.number(fresh)
	j.number(role)
	j.number(until)
	j.end()
}

// Revoke lays the line of a token that was revoked.
func (j *Journal) Revoke(by int, old int) {
	j.begin(by, "revoke")
	j.number(old)
	j.end()
}

// Publish lays the line of a version that was published.
func (j *Journal) Publish(by int, pack string, version int) {
	j.begin(by, "publish")
	j.word(pack)
	j.number(version)
	j.end()
}

// Yank lays the line of a version that was taken back, or, if back is true,
// that counts again.
func (j *Journal) Yank(by int, pack string, version int, back bool) {
	deed := "yank"
	if back {
		deed = "back"
	}
	j.begin(by, deed)
	j.word(pack)
	j.number(version)
	j.end()
}

// Grant lays the line of a package that was granted.
func (j *Journal) Grant(by int, pack string, to string) {
	j.begin(by, "grant")
	j.word(pack)
	j.word(to)
	j.end()
}

// Text tells all lines, the oldest first.
func (j *Journal) Text() string {
	return string(j.text)
}

// Sum tells the sum of all bytes of the lines. No product is too great for an
// int: both factors together have fewer than 58 bits.
func (j *Journal) Sum() int {
	sum := firstSum
	for i := 0; i < len(j.text); i++ {
		sum = (sum ^ int(j.text[i])) * factor % modulus
	}
	return sum
}

func (j *Journal) begin(by int, deed string) {
	j.lay(strconv.Itoa(by))
	j.lay(":")
	j.lay(deed)
}

func (j *Journal) number(n int) {
	j.word(strconv.Itoa(n))
}

func (j *Journal) word(text string) {
	j.lay(" ")
	j.lay(text)
}

func (j *Journal) end() {
	j.lay(";")
}

func (j *Journal) lay(text string) {
	j.text = append(j.text, text...)
}
