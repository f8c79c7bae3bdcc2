package store

import "pavilion/api"

// image is what stands in place of all that the logs told up to its time. Without a good one, it is all 0.
type image struct {
	time, generation int
	items            []api.Record
}

// newerImage tells which of the images of two files counts: the first, if their generations are the same.
func newerImage(first, second []api.Record) image {
	a, b := imageOf(first), imageOf(second)
	if b.generation > a.generation {
		return b
	}
	return a
}

func imageOf(l []api.Record) image {
	if !isGood(l) {
		return image{}
	}
	return image{time: l[0].Time, generation: l[0].Generation, items: l[1 : len(l)-1]}
}

// isGood tells whether an image was written to its end, and nothing but an image.
func isGood(l []api.Record) bool {
	end := len(l) - 1
	if end < 1 || l[0].Kind != api.Image || l[end].Kind != api.Whole {
		return false
	}
	for _, r := range l[1:end] {
		if r.Kind != api.Item {
			return false
		}
	}
	return true
}
