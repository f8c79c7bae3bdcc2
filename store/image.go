package store

import "pavilion/api"

// imagePlace is where an image is, and how many images there were up to it.
type imagePlace struct{ file, generation int }

// next tells where the image comes that follows: in the other of the two files, so that this one stays until that one is whole.
func (p imagePlace) next() imagePlace {
	return imagePlace{file: api.Images + (api.Images + 1) - p.file, generation: p.generation + 1}
}

// image is what stands in place of all that the logs told up to its time.
type image struct {
	imagePlace
	time  int
	items []api.Record
}

// newestImage tells the image that counts: of two with the same generation the first; without a good one, one in the second file that tells nothing.
func newestImage(records [api.Files][]api.Record) image {
	newest := image{imagePlace: imagePlace{file: api.Images + 1}}
	for f := api.Images; f < api.Files; f++ {
		l := records[f]
		if isGood(l) && l[0].Generation > newest.generation {
			newest = image{imagePlace: imagePlace{file: f, generation: l[0].Generation}, time: l[0].Time, items: l[1 : len(l)-1]}
		}
	}
	return newest
}

// isGood tells whether an image was written to its end, and nothing but an image.
func isGood(l []api.Record) bool {
	end := len(l) - 1
	if end < 1 || l[0].Kind != api.Image || l[end].Kind != api.Whole {
		return false
	}
	for _, r := range l[1:end] {
		if r.Kind != api.Item {
			return false
		}
	}
	return true
}
