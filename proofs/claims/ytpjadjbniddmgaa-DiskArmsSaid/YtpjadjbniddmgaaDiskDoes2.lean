/- Contracts: the law's 'does', case by case. -/
import Derived.Test.YtpjadjbniddmgaaDiskDoes
namespace Go.Proofs.Ytpjadjbniddmgaa
open Go.RowKit Dkm
set_option linter.unusedVariables false

set_option maxHeartbeats 2000000 in
theorem does_1 (num : Int) (nm s : ByteArray) (A : Option Addr) (n c : Nat) (d : Dk) (w : World) (hd : Dsk w A n c d.fs) (hf : ∀ f ∈ d.fs, f.sf.size + f.wt.size ≤ 2305843009213693952) (hs : s.size ≤ 2305843009213693952) (hr : d.room ≤ 9223372036854775807) (hfu : d.fuse ≤ 9223372036854775807) :
    Calls Try.prog 32 #[dkv A n c d.room d.fuse d.off, actv 1 num nm s] w fun e w' => RetDV w A (appd d nm s).1 (appd d nm s).2 e w' := by
  have few := hd.few
  have len := hd.len
  have H := Lib.hid (And.intro hd (And.intro hf (And.intro hs (And.intro hr hfu))))
  have HM := Lib.hid (show ∀ f ∈ d.fs, f.sf.size + f.wt.size ≤ maxLen from fun f h => by have := hf f h; unfold maxLen; omega)
  have Z := Lib.hid (Dz.new 1 num nm s hd)
  have HL := Lib.hid len
  clear hd hf hs hr hfu len
  have HR := Lib.hid (does_few d 1 num nm s)
  rw [show doesM d 1 num nm s = appd d nm s by simp [doesM]] at HR
  have KK := Lib.hid (fun (W : World) (hW : Dsk W A n c d.fs) => append_any nm s A n c d W hW H.out.2.1 H.out.2.2.1 H.out.2.2.2.1 H.out.2.2.2.2)
  generalize appd d nm s = r at KK HR ⊢
  obtain ⟨r, er⟩ := r
  go_enter Try.func32, Try.ntmps32
  go_wp2_with fail
  have kk := KK.out _ Z.out.dsk
  refine kk.mono ?_
  clear kk
  rintro e w2 ⟨A2, n2, c2, rfl, ho, q2⟩
  have n2n : n2 * 48 ≤ 140737488355328 := by have h1 := ho.len; have h2 := HR.out; have h3 := HL.out; (try simp only at h1 h2); omega
  have HO := Lib.hid ho
  obtain ⟨⟨s0, s1, s2, s3⟩, h0, h1, h2, h3⟩ := (Z.out.step q2).res.get4
  have q2 := Lib.hid q2
  clear ho
  go_wp2
  refine bodyPost_ret (v := .tuple #[dkv A2 n2 c2 r.room r.fuse r.off, .int .i64 er]) (by simp [results, Try.results32, go_sem, s0, s1, s2, s3]) rfl ?_
  exact Z.out.fin q2.out er HO.out n2n _ _ _ _

set_option maxHeartbeats 2000000 in
theorem does_2 (num : Int) (nm s : ByteArray) (A : Option Addr) (n c : Nat) (d : Dk) (w : World) (hd : Dsk w A n c d.fs) (hf : ∀ f ∈ d.fs, f.sf.size + f.wt.size ≤ 2305843009213693952) (hs : s.size ≤ 2305843009213693952) (hr : d.room ≤ 9223372036854775807) (hfu : d.fuse ≤ 9223372036854775807) :
    Calls Try.prog 32 #[dkv A n c d.room d.fuse d.off, actv 2 num nm s] w fun e w' => RetDV w A (syn d nm).1 (syn d nm).2 e w' := by
  have few := hd.few
  have len := hd.len
  have H := Lib.hid (And.intro hd (And.intro hf (And.intro hs (And.intro hr hfu))))
  have HM := Lib.hid (show ∀ f ∈ d.fs, f.sf.size + f.wt.size ≤ maxLen from fun f h => by have := hf f h; unfold maxLen; omega)
  have Z := Lib.hid (Dz.new 2 num nm s hd)
  have HL := Lib.hid len
  clear hd hf hs hr hfu len
  have HR := Lib.hid (does_few d 2 num nm s)
  rw [show doesM d 2 num nm s = syn d nm by simp [doesM]] at HR
  have KK := Lib.hid (fun (W : World) (hW : Dsk W A n c d.fs) => sync_any nm A n c d W hW HM.out)
  generalize syn d nm = r at KK HR ⊢
  obtain ⟨r, er⟩ := r
  go_enter Try.func32, Try.ntmps32
  go_wp2_with fail
  have kk := KK.out _ Z.out.dsk
  refine kk.mono ?_
  clear kk
  rintro e w2 ⟨A2, n2, c2, rfl, ho, q2⟩
  have n2n : n2 * 48 ≤ 140737488355328 := by have h1 := ho.len; have h2 := HR.out; have h3 := HL.out; (try simp only at h1 h2); omega
  have HO := Lib.hid ho
  obtain ⟨⟨s0, s1, s2, s3⟩, h0, h1, h2, h3⟩ := (Z.out.step q2).res.get4
  have q2 := Lib.hid q2
  clear ho
  go_wp2
  refine bodyPost_ret (v := .tuple #[dkv A2 n2 c2 r.room r.fuse r.off, .int .i64 er]) (by simp [results, Try.results32, go_sem, s0, s1, s2, s3]) rfl ?_
  exact Z.out.fin q2.out er HO.out n2n _ _ _ _

set_option maxHeartbeats 2000000 in
theorem does_3 (num : Int) (nm s : ByteArray) (A : Option Addr) (n c : Nat) (d : Dk) (w : World) (hd : Dsk w A n c d.fs) (hf : ∀ f ∈ d.fs, f.sf.size + f.wt.size ≤ 2305843009213693952) (hs : s.size ≤ 2305843009213693952) (hr : d.room ≤ 9223372036854775807) (hfu : d.fuse ≤ 9223372036854775807) :
    Calls Try.prog 32 #[dkv A n c d.room d.fuse d.off, actv 3 num nm s] w fun e w' => RetDV w A (ren d nm s).1 (ren d nm s).2 e w' := by
  have few := hd.few
  have len := hd.len
  have H := Lib.hid (And.intro hd (And.intro hf (And.intro hs (And.intro hr hfu))))
  have HM := Lib.hid (show ∀ f ∈ d.fs, f.sf.size + f.wt.size ≤ maxLen from fun f h => by have := hf f h; unfold maxLen; omega)
  have Z := Lib.hid (Dz.new 3 num nm s hd)
  have HL := Lib.hid len
  clear hd hf hs hr hfu len
  have HR := Lib.hid (does_few d 3 num nm s)
  rw [show doesM d 3 num nm s = ren d nm s by simp [doesM]] at HR
  have KK := Lib.hid (fun (W : World) (hW : Dsk W A n c d.fs) => ren_any nm s A n c d W hW HM.out H.out.2.2.2.2)
  generalize ren d nm s = r at KK HR ⊢
  obtain ⟨r, er⟩ := r
  go_enter Try.func32, Try.ntmps32
  go_wp2_with fail
  have kk := KK.out _ Z.out.dsk
  refine kk.mono ?_
  clear kk
  rintro e w2 ⟨A2, n2, c2, rfl, ho, q2⟩
  have n2n : n2 * 48 ≤ 140737488355328 := by have h1 := ho.len; have h2 := HR.out; have h3 := HL.out; (try simp only at h1 h2); omega
  have HO := Lib.hid ho
  obtain ⟨⟨s0, s1, s2, s3⟩, h0, h1, h2, h3⟩ := (Z.out.step q2).res.get4
  have q2 := Lib.hid q2
  clear ho
  go_wp2
  refine bodyPost_ret (v := .tuple #[dkv A2 n2 c2 r.room r.fuse r.off, .int .i64 er]) (by simp [results, Try.results32, go_sem, s0, s1, s2, s3]) rfl ?_
  exact Z.out.fin q2.out er HO.out n2n _ _ _ _

set_option maxHeartbeats 2000000 in
theorem does_4 (num : Int) (nm s : ByteArray) (A : Option Addr) (n c : Nat) (d : Dk) (w : World) (hd : Dsk w A n c d.fs) (hf : ∀ f ∈ d.fs, f.sf.size + f.wt.size ≤ 2305843009213693952) (hs : s.size ≤ 2305843009213693952) (hr : d.room ≤ 9223372036854775807) (hfu : d.fuse ≤ 9223372036854775807) :
    Calls Try.prog 32 #[dkv A n c d.room d.fuse d.off, actv 4 num nm s] w fun e w' => RetDV w A (del d nm).1 (del d nm).2 e w' := by
  have few := hd.few
  have len := hd.len
  have H := Lib.hid (And.intro hd (And.intro hf (And.intro hs (And.intro hr hfu))))
  have HM := Lib.hid (show ∀ f ∈ d.fs, f.sf.size + f.wt.size ≤ maxLen from fun f h => by have := hf f h; unfold maxLen; omega)
  have Z := Lib.hid (Dz.new 4 num nm s hd)
  have HL := Lib.hid len
  clear hd hf hs hr hfu len
  have HR := Lib.hid (does_few d 4 num nm s)
  rw [show doesM d 4 num nm s = del d nm by simp [doesM]] at HR
  have KK := Lib.hid (fun (W : World) (hW : Dsk W A n c d.fs) => del_any nm A n c d W hW HM.out H.out.2.2.2.2)
  generalize del d nm = r at KK HR ⊢
  obtain ⟨r, er⟩ := r
  go_enter Try.func32, Try.ntmps32
  go_wp2_with fail
  have kk := KK.out _ Z.out.dsk
  refine kk.mono ?_
  clear kk
  rintro e w2 ⟨A2, n2, c2, rfl, ho, q2⟩
  have n2n : n2 * 48 ≤ 140737488355328 := by have h1 := ho.len; have h2 := HR.out; have h3 := HL.out; (try simp only at h1 h2); omega
  have HO := Lib.hid ho
  obtain ⟨⟨s0, s1, s2, s3⟩, h0, h1, h2, h3⟩ := (Z.out.step q2).res.get4
  have q2 := Lib.hid q2
  clear ho
  go_wp2
  refine bodyPost_ret (v := .tuple #[dkv A2 n2 c2 r.room r.fuse r.off, .int .i64 er]) (by simp [results, Try.results32, go_sem, s0, s1, s2, s3]) rfl ?_
  exact Z.out.fin q2.out er HO.out n2n _ _ _ _

set_option maxHeartbeats 2000000 in
theorem does_6 (num : Int) (nm s : ByteArray) (A : Option Addr) (n c : Nat) (d : Dk) (w : World) (hd : Dsk w A n c d.fs) (hf : ∀ f ∈ d.fs, f.sf.size + f.wt.size ≤ 2305843009213693952) (hs : s.size ≤ 2305843009213693952) (hr : d.room ≤ 9223372036854775807) (hfu : d.fuse ≤ 9223372036854775807) :
    Calls Try.prog 32 #[dkv A n c d.room d.fuse d.off, actv 6 num nm s] w fun e w' => RetDV w A { d with fuse := max num (-1) } 0 e w' := by
  have few := hd.few
  have len := hd.len
  have H := Lib.hid (And.intro hd (And.intro hf (And.intro hs (And.intro hr hfu))))
  have HM := Lib.hid (show ∀ f ∈ d.fs, f.sf.size + f.wt.size ≤ maxLen from fun f h => by have := hf f h; unfold maxLen; omega)
  have Z := Lib.hid (Dz.new 6 num nm s hd)
  have HL := Lib.hid len
  clear hd hf hs hr hfu len
  have HR := Lib.hid (show ({ d with fuse := max num (-1) } : Dk).fs.length ≤ max d.fs.length 64 from Nat.le_max_left _ _)
  have KK := Lib.hid (fun (W : World) (hW : Dsk W A n c d.fs) => (show Calls Try.prog 29 #[dkv A n c d.room d.fuse d.off, .int .i64 num] W fun e w' => RetD W { d with fuse := max num (-1) } e w' from arm_any A n c d.room d.fuse d.off num d.fs W hW))
  generalize ({ d with fuse := max num (-1) } : Dk) = r at KK HR ⊢
  go_enter Try.func32, Try.ntmps32
  go_wp2_with fail
  have kk := KK.out _ Z.out.dsk
  refine kk.mono ?_
  clear kk
  rintro e w2 ⟨A2, n2, c2, rfl, ho, q2⟩
  have n2n : n2 * 48 ≤ 140737488355328 := by have h1 := ho.len; have h2 := HR.out; have h3 := HL.out; (try simp only at h1 h2); omega
  have HO := Lib.hid ho
  obtain ⟨⟨s0, s1, s2, s3⟩, h0, h1, h2, h3⟩ := (Z.out.step q2).res.get4
  have q2 := Lib.hid q2
  clear ho
  go_wp2
  refine bodyPost_ret (v := .tuple #[dkv A2 n2 c2 r.room r.fuse r.off, .int .i64 0]) (by simp [results, Try.results32, go_sem, s0, s1, s2, s3]) rfl ?_
  exact Z.out.fin q2.out 0 HO.out n2n _ _ _ _

set_option maxHeartbeats 2000000 in
theorem does_7 (num : Int)  (kind : Int) (t1 : kind ≠ 1) (t2 : kind ≠ 2) (t3 : kind ≠ 3) (t4 : kind ≠ 4) (t5 : kind ≠ 5) (t6 : kind ≠ 6) (nm s : ByteArray) (A : Option Addr) (n c : Nat) (d : Dk) (w : World) (hd : Dsk w A n c d.fs) (hf : ∀ f ∈ d.fs, f.sf.size + f.wt.size ≤ 2305843009213693952) (hs : s.size ≤ 2305843009213693952) (hr : d.room ≤ 9223372036854775807) (hfu : d.fuse ≤ 9223372036854775807) :
    Calls Try.prog 32 #[dkv A n c d.room d.fuse d.off, actv kind num nm s] w fun e w' => RetDV w A d 0 e w' := by
  have few := hd.few
  have len := hd.len
  have H := Lib.hid (And.intro hd (And.intro hf (And.intro hs (And.intro hr hfu))))
  have HM := Lib.hid (show ∀ f ∈ d.fs, f.sf.size + f.wt.size ≤ maxLen from fun f h => by have := hf f h; unfold maxLen; omega)
  have Z := Lib.hid (Dz.new kind num nm s hd)
  have HL := Lib.hid len
  clear hd hf hs hr hfu len
  have u1 : (kind == 1) = false := by simpa using t1
  have u2 : (kind == 2) = false := by simpa using t2
  have u3 : (kind == 3) = false := by simpa using t3
  have u4 : (kind == 4) = false := by simpa using t4
  have u5 : (kind == 5) = false := by simpa using t5
  have u6 : (kind == 6) = false := by simpa using t6
  clear t1 t2 t3 t4 t5 t6
  go_enter Try.func32, Try.ntmps32
  go_wp2
  refine bodyPost_ret (v := .tuple #[dkv A n c d.room d.fuse d.off, .int .i64 0]) (by simp [results, Try.results32, go_sem]) rfl ?_
  exact ⟨A, n, c, rfl, H.out.1.q ((((Q.refl _).alloc _).alloc _).alloc _), (((Q.refl _).alloc _).alloc _).alloc _, .inl rfl⟩

set_option maxHeartbeats 2000000 in
theorem does_5 (num : Int) (nm s : ByteArray) (A : Option Addr) (n c : Nat) (d : Dk) (w : World) (hd : Dsk w A n c d.fs) (hf : ∀ f ∈ d.fs, f.sf.size + f.wt.size ≤ 2305843009213693952) (hs : s.size ≤ 2305843009213693952) (hr : d.room ≤ 9223372036854775807) (hfu : d.fuse ≤ 9223372036854775807) :
    Calls Try.prog 32 #[dkv A n c d.room d.fuse d.off, actv 5 num nm s] w fun e w' => RetDV w A (crs d (List.replicate d.fs.length num)) 0 e w' := by
  have few := hd.few
  have len := hd.len
  have H := Lib.hid (And.intro hd (And.intro hf (And.intro hs (And.intro hr hfu))))
  have HM := Lib.hid (show ∀ f ∈ d.fs, f.sf.size + f.wt.size ≤ maxLen from fun f h => by have := hf f h; unfold maxLen; omega)
  have Z := Lib.hid (Dz.new 5 num nm s hd)
  have HL := Lib.hid len
  clear hd hf hs hr hfu len
  have nm5 : n ≤ 9223372036854775807 := by omega
  have HR := Lib.hid (show (crs d (List.replicate d.fs.length num)).fs.length ≤ max d.fs.length 64 by rw [crs_len]; exact Nat.le_max_left _ _)
  have KK := Lib.hid (fun (W : World) (A2 : Option Addr) (c2 : Nat) (hW : Dsk W A n c d.fs) (hI : Ints W A2 n (List.replicate d.fs.length num)) => (show Calls Try.prog 27 #[dkv A n c d.room d.fuse d.off, .slice A2 n c2] W fun e w' => RetD W (crs d (List.replicate d.fs.length num)) e w' from crash_any A n c d.room d.fuse d.off A2 n c2 (List.replicate d.fs.length num) d.fs W hW hI (by unfold maxLen; omega) HM.out))
  generalize crs d (List.replicate d.fs.length num) = r at KK HR ⊢
  go_enter Try.func32, Try.ntmps32
  go_wp2
  generalize (((w.alloc (.cells #[.slice A n c, .int .i64 d.room, .int .i64 d.fuse, .bool d.off] 24)).alloc (.cells #[.int .i64 5, .int .i64 num, .string nm, .string s] 56)).alloc (.cells #[.slice none 0 0, .int .i64 0, .int .i64 0, .bool false] 24)) = W at Z ⊢
  go_loopw [6, 7] (fun v i wr => ∃ k A2 c2, k ≤ n ∧ i = .int .i64 (k : Nat) ∧ v = .slice A2 k c2 ∧ OwnI wr W.heap.size A2 k c2 (List.replicate k num) ∧ Q W wr) (fun _ i _ => n - (intOf i).toNat)
  case atStart => exact ⟨0, none, 0, Nat.zero_le _, rfl, rfl, ⟨rfl, .inl ⟨rfl, rfl⟩⟩, Q.refl _⟩
  case round =>
    obtain ⟨k, A2, c2, hk, rfl, rfl, ho, hq⟩ := hrel
    have HO := Lib.hid ho
    have HQ := Lib.hid hq
    have Y := Lib.hid (Z.out.step hq)
    have zz : w.heap.size + 2 < wr.heap.size := Y.out.res.lt
    clear ho hq
    obtain ⟨⟨e0, e1, e2, e3⟩, _⟩ := Y.out.dk.get4
    obtain ⟨⟨a0, a1, a2, a3⟩, _⟩ := Y.out.act.get4
    by_cases hlt : k < n
    · go_wp2_with (at_builtin
                   refine wpl_appI rfl (.tmp 55) (.tmp 58) rfl W.heap.size A2 k c2 (List.replicate k num) rfl (by exact World.ownsRow.kept HO.out (World.grownBy_alloc wr _ none) (by cases A2 <;> simp [Value.ownBlock])) ⟨wr.heap.size, 0, none⟩ 1 1 [num] rfl (ints_lit1 wr num) (by omega) (by have := HQ.out.size; simp; omega) ?_
                   intro A3 c3 w3 ho3 hb3)
      go_roundw
      case rel => exact ⟨k + 1, A3, c3, by omega, by go_num, rfl, by rw [List.replicate_succ']; exact ho3, (HQ.out.alloc (.cells #[.int .i64 num] 3)).below.trans hb3⟩
      case measure => simp [intOf]; omega
    · have e : n = k := by omega
      subst e
      go_wp2_with fail
      have kk := KK.out wr A2 c2 Y.out.dsk (by rw [HL.out]; exact HO.out.ints)
      refine kk.mono ?_
      clear kk
      rintro e w2 ⟨A3, n3, c3, rfl, ho, q2⟩
      have n2n : n3 * 48 ≤ 140737488355328 := by have h1 := ho.len; have h2 := HR.out; have h3 := HL.out; omega
      have HO3 := Lib.hid ho
      obtain ⟨⟨s0, s1, s2, s3⟩, h0, h1, h2, h3⟩ := (Y.out.step q2).res.get4
      have q2 := Lib.hid q2
      clear ho e0 e1 e2 e3 a0 a1 a2 a3
      go_wp2
      refine bodyPost_ret (v := .tuple #[dkv A3 n3 c3 r.room r.fuse r.off, .int .i64 0]) (by simp [results, Try.results32, go_sem, s0, s1, s2, s3]) rfl ?_
      exact Y.out.fin q2.out 0 HO3.out n2n _ _ _ _
end Go.Proofs.Ytpjadjbniddmgaa
