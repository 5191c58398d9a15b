// Package code reads and writes what codes are made of: numbers and texts.
package code

// MaxNumber is the greatest number that can be written.
const MaxNumber = 1<<31 - 1

const (
	groupBits  = 7
	moreFollow = 1 << groupBits
	maxGroups  = 5
)

// AddNumber writes a number, from 0 to MaxNumber, behind the bytes.
func AddNumber(bytes []byte, number int) []byte {
	for number >= moreFollow {
		bytes = append(bytes, byte(number)|moreFollow)
		number >>= groupBits
	}
	return append(bytes, byte(number))
}
