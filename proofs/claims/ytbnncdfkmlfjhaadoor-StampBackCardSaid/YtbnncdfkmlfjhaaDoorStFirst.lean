/- The walk of voklaw2.first: what the chapter's examples fix. -/
import Derived.Test.YtbnncdfkmlfjhaaDoorStWalkC
import Derived.Test.YtbnncdfkmlfjhaaDoorStWalkD
namespace Go.Proofs.YtbnncdfkmlfjhaaDoor.St
open Go.RowKit Cv

theorem parse_is (s : ByteArray) (W w : World) (hs : s.size ≤ maxLen) (h : At W w) (a b : Int) (hp : parse s.data.toList = (a, b)) :
    Calls Tryd.prog 24 #[.string s] w fun e w' => e = .returned (.tuple #[.int .i64 a, .int .i64 b]) ∧ At W w' := by
  have := parse_any s W w hs h; rwa [hp] at this
theorem durParse_is (s : ByteArray) (W w : World) (hs : s.size ≤ maxLen) (h : At W w) (a b : Int) (hp : durParse s.data.toList = (a, b)) :
    Calls Tryd.prog 28 #[.string s] w fun e w' => e = .returned (.tuple #[.int .i64 a, .int .i64 b]) ∧ At W w' := by
  have := durParse_any s W w hs h; rwa [hp] at this
theorem text_0 : (⟨(text 0).toArray⟩ : ByteArray) = ⟨#[49, 57, 55, 48, 48, 49, 48, 49, 84, 48, 48, 48, 48, 48, 48]⟩ := by decide +kernel
theorem durText_0 : (⟨(durText 5400).toArray⟩ : ByteArray) = ⟨#[80, 84, 49, 72, 51, 48, 77]⟩ := by decide +kernel
theorem durText_1 : (⟨(durText 1209600).toArray⟩ : ByteArray) = ⟨#[80, 50, 87]⟩ := by decide +kernel
theorem parse_0 : parse (⟨#[50, 48, 50, 54, 48, 50, 51, 48, 84, 48, 48, 48, 48, 48, 48]⟩ : ByteArray).data.toList = (0, 1) := by decide +kernel
theorem durParse_0 : durParse (⟨#[80, 84, 54, 48, 77]⟩ : ByteArray).data.toList = (0, 4) := by decide +kernel
theorem first_any (W w : World) (h : At W w) :
    Calls Tryd.prog 13 #[] w fun e w' => e = .returned (.bool true) ∧ At W w' := by
  go_enter Tryd.func13, Tryd.ntmps13
  go_wp2_with fail
  refine (text_is W _ _ _ (by decide) (by decide) h text_0).mono ?_
  rintro e w1 ⟨rfl, h1⟩
  clear h
  go_wp2_with fail
  refine (parse_is _ W _ (by decide) h1 _ _ parse_0).mono ?_
  rintro e w2 ⟨rfl, h2⟩
  clear h1
  go_wp2_with fail
  refine (durText_is W _ _ _ (by decide) (by decide) h2 durText_0).mono ?_
  rintro e w3 ⟨rfl, h3⟩
  clear h2
  go_wp2_with fail
  refine (durText_is W _ _ _ (by decide) (by decide) h3 durText_1).mono ?_
  rintro e w4 ⟨rfl, h4⟩
  clear h3
  go_wp2_with fail
  refine (durParse_is _ W _ (by decide) h4 _ _ durParse_0).mono ?_
  rintro e w5 ⟨rfl, h5⟩
  clear h4
  go_wp2
  go_ret
  exact ⟨rfl, h5⟩
end Go.Proofs.YtbnncdfkmlfjhaaDoor.St
