package impl

const WeatherSum = 36

type Climate struct {
	Weights [][]int
}

// IsClimate reports whether a climate is valid.
func IsClimate(c Climate) bool { return false }

// WeatherName returns clear, mud or snow for 0, 1 and 2, and the empty string for other numbers.
func WeatherName(w int) string { return "" }

// NextWeather returns the weather after w in a turn: the first x for which the sum of Weights(w) up to and including x is greater than NumberBelow (chapter 12) of seed, turn and WeatherSum.
func NextWeather(c Climate, w int, seed int, turn int) (int, bool) { return 0, false }

// WeatherFrom returns the weather of n turns, n in 0..MaxTurns: NextWeather of w in turn 0, of the result in turn 1, and so on.
func WeatherFrom(c Climate, w int, seed int, n int) ([]int, bool) { return nil, false }

// ChancesAfter returns for each weather the chance that it is the one after n turns, n in 0..6, that begin with w, times the n-th power of WeatherSum.
func ChancesAfter(c Climate, w int, n int) ([]int, bool) { return nil, false }

// LikelihoodOf returns the chance that the second element of a list of 1 to 7 weathers follows the first one, the third the second, and so on, times the power of WeatherSum with the length of the list minus 1.
func LikelihoodOf(c Climate, list []int) (int, bool) { return 0, false }

// MostLikely returns the list of n weathers, n in 0..6, which with w in front has the greatest LikelihoodOf; the first one in lexicographic order among several.
func MostLikely(c Climate, w int, n int) ([]int, bool) { return nil, false }

// CanFollow reports whether x can be the weather after any number of turns, at least one, that begin with w.
func CanFollow(c Climate, w int, x int) (bool, bool) { return false, false }

// EvenTurn returns the least n in 1..most, most in 1..6, for which all three ChancesAfter are greater than 0.
func EvenTurn(c Climate, w int, most int) (int, bool) { return 0, false }

// ClimateText returns the nine weights in order, separated by blanks; ParseClimate returns the climate with the given ClimateText, and fails if there is none.
func ClimateText(c Climate) (string, bool) { return "", false }

// ParseClimate returns the climate with the given ClimateText. It fails if there is none.
func ParseClimate(s string) (Climate, bool) { return Climate{}, false }
