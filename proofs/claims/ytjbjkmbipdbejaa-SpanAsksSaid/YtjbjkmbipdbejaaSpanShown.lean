/- The examples of chapter 9, at the head of each law. -/
import Derived.Test.YtjbjkmbipdbejaaSpanRef2
namespace Go.Proofs.Ytjbjkmbipdbejaa
set_option maxRecDepth 100000
open Go.RowKit Prm Sm
set_option linter.unusedVariables false
set_option linter.unusedSimpArgs false

theorem shown_c1 : clash (key 2 ⟨#[97]⟩) ⟨1, ⟨#[97]⟩, ⟨#[98]⟩⟩ = true := by decide
theorem shown_c2 : over (key 1 ⟨#[97]⟩) (key 1 ⟨#[97]⟩) = true := by decide
theorem shown_c3 : clash (key 1 ⟨#[97]⟩) (key 1 ⟨#[97]⟩) = false := by decide

set_option maxHeartbeats 2000000 in
theorem spshown_any (w : World) : Calls Try.prog 10 #[] w fun e w' => e = .returned (.bool true) ∧ Q w w' := by
  have K1 := Lib.hid (fun W => skey_any 2 ⟨#[97]⟩ W (by simp [ByteArray.size]))
  have K2 := Lib.hid (fun W => skey_any 1 ⟨#[97]⟩ W (by simp [ByteArray.size]))
  have C1 := Lib.hid (fun W => shown_c1 ▸ sclash_any (key 2 ⟨#[97]⟩) ⟨1, ⟨#[97]⟩, ⟨#[98]⟩⟩ W)
  have C2 := Lib.hid (fun W => shown_c2 ▸ sover_any (key 1 ⟨#[97]⟩) (key 1 ⟨#[97]⟩) W)
  have C3 := Lib.hid (fun W => shown_c3 ▸ sclash_any (key 1 ⟨#[97]⟩) (key 1 ⟨#[97]⟩) W)
  unfold wnV Sm.key at *
  simp only at K1 K2 C1 C2 C3
  generalize ((⟨#[97]⟩ : ByteArray) ++ ⟨#[0]⟩) = kb at *
  go_enter Try.func10, Try.ntmps10
  go_wp2_with fail
  refine (K1.out _).mono ?_
  rintro e w1 ⟨rfl, q1⟩
  have Q1 := Lib.hid q1
  clear q1
  go_wp2_with fail
  have b1 := (Bx.new w1 [.int .i64 2, .string ⟨#[97]⟩, .string kb] 23).get3.1
  have Q2 := Lib.hid (Q1.out.alloc (.cells #[.int .i64 2, .string ⟨#[97]⟩, .string kb] 23))
  generalize hb1 : w1.heap.size = n1 at b1 ⊢
  clear hb1
  change _ ∧ _ ∧ _ at b1
  generalize (w1.alloc (.cells #[.int .i64 2, .string ⟨#[97]⟩, .string kb] 23)) = w2 at b1 Q2 ⊢
  obtain ⟨b1, b2, b3⟩ := b1
  refine (K2.out _).mono ?_
  rintro e w3 ⟨rfl, q3⟩
  have Q3 := Lib.hid (Q2.out.trans q3)
  have Q4 := Lib.hid (Q3.out.alloc (.cells #[.int .i64 1, .string ⟨#[97]⟩, .string kb] 23))
  have b1 := box_ (q3.alloc (.cells #[.int .i64 1, .string ⟨#[97]⟩, .string kb] 23)) b1
  have b2 := box_ (q3.alloc (.cells #[.int .i64 1, .string ⟨#[97]⟩, .string kb] 23)) b2
  have b3 := box_ (q3.alloc (.cells #[.int .i64 1, .string ⟨#[97]⟩, .string kb] 23)) b3
  have d1 := (Bx.new w3 [.int .i64 1, .string ⟨#[97]⟩, .string kb] 23).get3.1
  change (w3.alloc (.cells #[.int .i64 1, .string ⟨#[97]⟩, .string kb] 23)).cell? _ = _ ∧ (w3.alloc (.cells #[.int .i64 1, .string ⟨#[97]⟩, .string kb] 23)).cell? _ = _ ∧ (w3.alloc (.cells #[.int .i64 1, .string ⟨#[97]⟩, .string kb] 23)).cell? _ = _ at d1
  obtain ⟨d1, d2, d3⟩ := d1
  clear q3
  go_wp2_with fail
  generalize w3.alloc (.cells #[.int .i64 1, .string ⟨#[97]⟩, .string kb] 23) = w4 at Q4 b1 b2 b3 d1 d2 d3 ⊢
  refine (C1.out _).mono ?_
  rintro e w5 ⟨rfl, q5⟩
  have d1 := box_ q5 d1
  have d2 := box_ q5 d2
  have d3 := box_ q5 d3
  have Q5 := Lib.hid (Q4.out.trans q5)
  clear q5 b1 b2 b3
  go_wp2_with fail
  refine (C2.out _).mono ?_
  rintro e w6 ⟨rfl, q6⟩
  have d1 := box_ q6 d1
  have d2 := box_ q6 d2
  have d3 := box_ q6 d3
  have Q6 := Lib.hid (Q5.out.trans q6)
  clear q6
  go_wp2_with fail
  refine (C3.out _).mono ?_
  rintro e w7 ⟨rfl, q7⟩
  go_wp2
  go_ret
  exact ⟨rfl, Q6.out.trans q7⟩
end Go.Proofs.Ytjbjkmbipdbejaa
