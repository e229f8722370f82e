package rat

import (
	"strings"

	"anticline/api"
	"anticline/nat"
)

func Text(a api.Rat) string {
	text := nat.Text(a.N)
	if a.Neg {
		text = "-" + text
	}
	if isOne(a.D) {
		return text
	}
	return text + "/" + nat.Text(a.D)
}

func Parse(s string) (api.Rat, api.Errno) {
	text, neg := strings.CutPrefix(s, "-")
	if strings.Count(text, "/") > 1 {
		return api.Rat{}, api.ErrForm
	}
	above, below, parted := strings.Cut(text, "/")
	if !parted {
		below = "1"
	}
	n, e := nat.Parse(above)
	if e != api.OK {
		return api.Rat{}, e
	}
	d, e := nat.Parse(below)
	if e != api.OK {
		return api.Rat{}, e
	}
	return Make(neg, n, d)
}
