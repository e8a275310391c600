package image

import "respell/api"

// kind is what a number of an image says.
type kind int

// The kinds of what is read.
const (
	manyPasses kind = iota // how many there are
	manyRules
	manyNear // sets of a context
	manyKey  // sets of a key
	manyRanges
	manyPieces
	ends // Begin and End
	unit // also the ends of a range
	pieceKind
	place
	cursor
)

// Begin and End are one number together, a bit each.
const (
	begin = 1 << iota
	end
)

// form is by how many bytes numbers of a kind are laid, and the greatest of them.
type form struct{ width, most int }

// forms are those of all kinds. What is greater than may be is refused as soon as it is read, so that no count makes one read more than a pass can have.
var forms = [...]form{
	manyPasses: {1, api.MaxPasses},
	manyRules:  {2, api.MaxRules},
	manyNear:   {1, api.MaxNear},
	manyKey:    {1, api.MaxKey},
	manyRanges: {2, api.MaxRanges},
	manyPieces: {1, api.MaxPieces},
	ends:       {1, begin | end},
	unit:       {3, api.Stray + 0xFF},
	pieceKind:  {1, api.PPair},
	place:      {1, api.MaxKey - 1},
	cursor:     {1, api.MaxPieces},
}
