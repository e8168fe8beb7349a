/- The walk of voklaw2.first: what the chapter's examples fix. -/
import Derived.Test.YtkkmhjplfpdhcaaGreatDoorStWalkC
import Derived.Test.YtkkmhjplfpdhcaaGreatDoorStWalkD
namespace Go.Proofs.YtkkmhjplfpdhcaaGreatDoor.St
open Go.RowKit Cv

theorem parse_is (s : ByteArray) (W w : World) (hs : s.size ≤ maxLen) (h : At W w) (a b : Int) (hp : parse s.data.toList = (a, b)) :
    Calls Tryz.prog 144 #[.string s] w fun e w' => e = .returned (.tuple #[.int .i64 a, .int .i64 b]) ∧ At W w' := by
  have := parse_any s W w hs h; rwa [hp] at this
theorem text_0 : (⟨(text 0).toArray⟩ : ByteArray) = ⟨#[49, 57, 55, 48, 48, 49, 48, 49, 84, 48, 48, 48, 48, 48, 48]⟩ := by decide +kernel
theorem durText_0 : (⟨(durText 5400).toArray⟩ : ByteArray) = ⟨#[80, 84, 49, 72, 51, 48, 77]⟩ := by decide +kernel
theorem durText_1 : (⟨(durText 1209600).toArray⟩ : ByteArray) = ⟨#[80, 50, 87]⟩ := by decide +kernel
theorem parse_0 : parse (⟨#[50, 48, 50, 54, 48, 50, 51, 48, 84, 48, 48, 48, 48, 48, 48]⟩ : ByteArray).data.toList = (0, 1) := by decide +kernel
theorem durParse_0 : durParse (⟨#[80, 84, 54, 48, 77]⟩ : ByteArray).data.toList = (0, 4) := by decide +kernel
end Go.Proofs.YtkkmhjplfpdhcaaGreatDoor.St
