package nat

const maxShift = 1 << 20

func Shl(a []uint32, k int) []uint32 {
	a = trim(a)
	if k < 0 || k > maxShift {
		return clone(a)
	}
	room := widen(a, k/limbBits+1)
	moveUp(room, k)
	return trim(room)
}

func Shr(a []uint32, k int) []uint32 {
	room := clone(trim(a))
	if k < 0 || k > maxShift {
		return room
	}
	moveDown(room, k)
	return trim(room)
}

// moveUp makes room 2^k times as great; it has more limbs than k takes whole,
// and what goes out on top must be nought.
func moveUp(room []uint32, k int) {
	whole, part := k/limbBits, k%limbBits
	copy(room[whole:], room)
	clear(room[:whole])
	var carry uint32
	for i := whole; i < len(room); i++ {
		limb := room[i]
		room[i] = limb<<part | carry
		carry = limb >> (limbBits - part)
	}
}

// moveDown divides room by 2^k, rounding down.
func moveDown(room []uint32, k int) {
	whole, part := min(k/limbBits, len(room)), k%limbBits
	left := copy(room, room[whole:])
	clear(room[left:])
	var carry uint32
	for i := left - 1; i >= 0; i-- {
		limb := room[i]
		room[i] = limb>>part | carry
		carry = limb << (limbBits - part)
	}
}
