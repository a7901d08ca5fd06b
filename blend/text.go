package blend

import (
	"slices"
	"strconv"
	"strings"

	"criadera/api"
	"criadera/checks"
	"criadera/texts"
)

// mostDigits is the most digits of volumes in texts.
const mostDigits = 6

// FormatRecipe returns the text of a recipe, whatever it is.
func FormatRecipe(r api.BlendRecipe) string {
	words := []string{r.Name}
	for n := range min(len(r.Casks), len(r.Volumes)) {
		words = append(words, r.Casks[n]+"="+strconv.Itoa(r.Volumes[n]))
	}
	return strings.Join(words, " ")
}

// ParseRecipe returns the recipe with a text.
func ParseRecipe(s string) (api.BlendRecipe, api.Errno) {
	r, ok := readRecipe(strings.Split(s, " "))
	if !ok {
		return api.BlendRecipe{}, api.ErrSyntax
	}
	if e := recipeError(r); e != api.OK {
		return api.BlendRecipe{}, e
	}
	return r, api.OK
}

// readRecipe reads the words of a recipe, and tells whether they have their form.
func readRecipe(words []string) (api.BlendRecipe, bool) {
	r := api.BlendRecipe{Name: words[0]}
	for _, word := range words[1:] {
		cask, number, _ := strings.Cut(word, "=") // a number has no "=", so there is just one
		volume, ok := texts.Signed(number, mostDigits)
		if !ok || cask == "" {
			return api.BlendRecipe{}, false
		}
		r.Casks = append(r.Casks, cask)
		r.Volumes = append(r.Volumes, volume)
	}
	return r, r.Name != ""
}

func recipeError(r api.BlendRecipe) api.Errno {
	_, e := checks.Each(len(r.Casks), func(n int) api.Errno { return checks.Name(r.Casks[n]) })
	if e := checks.First(checks.Name(r.Name), e, checks.Unless(len(r.Casks) <= api.MaxBlendWhole, api.ErrLarge)); e != api.OK {
		return e
	}
	_, e = checks.Each(len(r.Casks), func(n int) api.Errno {
		return checks.First(
			checks.Unless(!slices.Contains(r.Casks[:n], r.Casks[n]), api.ErrExists),
			checks.Number(r.Volumes[n], 0, api.MaxBlendVolume))
	})
	return e
}
