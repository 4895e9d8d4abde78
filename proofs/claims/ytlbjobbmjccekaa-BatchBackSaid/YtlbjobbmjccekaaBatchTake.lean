/- The contract of batch.Take. -/
import Derived.Test.YtlbjobbmjccekaaBatchHand
import Derived.Test.YtlbjobbmjccekaaHeldL
import Derived.Deep.DeepCutAuto
namespace Go.Proofs.Ytlbjobbmjccekaa
set_option maxRecDepth 100000
open Go.RowKit Prm
set_option linter.unusedVariables false
set_option linter.unusedSimpArgs false
variable {α : Type}

/-- 'append(own, more...)' as one step of a region that draws. -/
theorem step_appKD (K : Kind α) {ops : Array Oper} {o : Oper} {a : Act} {w : World} {X : Act → World → Prop} {R : Exit → Act → World → Prop} {E : Prop} (hgd : o.guard = none) (s x : Operand) (t : TypeId) (ht : t = K.S)
    (ho : o.op = .call { callee := .builtin .append, args := #[s, x], argTypes := #[t, t] }) (base : Nat) (A : Option Addr) (n c : Nat) (l : List α) (hs : a.eval s = .slice A n c) (h : OwnK K w base A n c l) (A2 : Option Addr) (m c2 : Nat) (l2 : List α) (hx : a.eval x = .slice A2 m c2) (h2 : Lst K w A2 m l2) (hnil : A2 = none → m = 0 ∧ c2 = 0)
    (hb : (n + m) * K.bs ≤ 140737488355328) (hbase : base ≤ w.heap.size)
    (hk : ∀ A' c' w', OwnK K w' base A' (n + m) c' (l ++ l2) → Below base w w' → X (a.put o.dst (.slice A' (n + m) c')) w') : if Region.wanted o (yielded ops a.tmps) = true then Oper.wp Try.prog o a w X R else E := by
  subst ht
  have hw : Region.wanted o (yielded ops a.tmps) = true := by simp [Region.wanted, hgd]
  rw [if_pos hw]
  obtain ⟨A', c', w', hr, h3, h4⟩ := run_appK K w base A n c l h A2 m c2 l2 h2 hnil hb hbase o.type
  unfold Oper.wp execOp
  simp only [ho, resolve, invoke, builtin, Sem.run_bind, Sem.run_pure, Result.andThen_ok, List.map_toArray, List.map_cons, List.map_nil, hs, hx, hr]
  exact hk A' c' w' h3 h4

/-- a batch, and the errno. -/
def RetTB (w : World) (x : Bm.Bt × Nat) (e : Ending) (w' : World) : Prop :=
  ∃ A c, e = .returned (.tuple #[batV x.1.kind x.1.tok A x.1.ws.length c, .int .i64 (x.2 : Int)]) ∧ OwnK writeK w' w.heap.size A x.1.ws.length c x.1.ws ∧ Q w w'

/-- where Take stands. -/
structure Tk (bs br : Nat) (w w2 : World) (x : Bm.Hs) (kind : Int) (tok : ByteArray) (A : Option Addr) (n c : Nat) (ws : List Wr) (wi : World) : Prop where
  res : Bx wi w.heap.size [.int .i64 0, .string ⟨#[]⟩, .slice none 0 0]
  bh : Bx wi w2.heap.size [numF bs br, textF bs br, doneF bs br]
  bb : Bx wi (w2.heap.size + 1) [.int .i64 kind, .string tok, .slice A n c]
  own : OwnK writeK wi (w2.heap.size + 1 + 1) A n c ws
  h : Hd wi bs br x
  q : Q w wi
  g1 : w.heap.size < bs
  g2 : w.heap.size < br
  l1 : bs < w2.heap.size
  l2 : br < w2.heap.size
  l3 : w2.heap.size + 1 + 1 ≤ wi.heap.size
section
variable {bs br : Nat} {w w2 wi wj : World} {x y : Bm.Hs} {kind : Int} {tok : ByteArray} {A : Option Addr} {n c : Nat} {ws : List Wr}
theorem Tk.step (h : Tk bs br w w2 x kind tok A n c ws wi) (hh : Hd wj bs br y) (ht : Tw bs br wi wj) : Tk bs br w w2 y kind tok A n c ws wj := by
  have h1 := h.g1; have h2 := h.g2; have h3 := h.l1; have h4 := h.l2; have h5 := h.l3
  exact ⟨ht.bx h.res (by omega) (by omega) (by omega), ht.bx h.bh (by omega) (by omega) (by omega), ht.bx h.bb (by omega) (by omega) (by omega), ht.own h.own (by omega) (by omega), hh, h.q.below.trans (ht.below (by omega) (by omega) (by omega)), h1, h2, h3, h4, Nat.le_trans h5 ht.size⟩
theorem Tk.drew (h : Tk bs br w w2 x kind tok A n c ws wi) : Tk bs br w w2 x kind tok A n c ws wi.drew := h.step (h.h.q (Q.refl _).drew) (Tw.ofQ (Q.refl _).drew)
theorem Tk.ofQ (h : Tk bs br w w2 x kind tok A n c ws wi) (q : Q wi wj) : Tk bs br w w2 x kind tok A n c ws wj := h.step (h.h.q q) (Tw.ofQ q)
theorem Tk.setKind (h : Tk bs br w w2 x kind tok A n c ws wi) (k : Int) : Tk bs br w w2 x k tok A n c ws (wi.setCell ⟨w2.heap.size + 1, 0, none⟩ (.int .i64 k)) := by
  have h1 := h.g1; have h2 := h.g2; have h3 := h.l1; have h4 := h.l2; have h5 := h.l3
  exact ⟨h.res.far (by simp only; omega) _, h.bh.far (by simp only; omega) _, h.bb.set (k := 0) (by simp) _, h.own.setCell (by simp only; omega) _, h.h.far (by simp only; omega) (by simp only; omega) _, h.q.setCell (by simp only; omega) _, h1, h2, h3, h4, by simpa using h5⟩
theorem Tk.setTok (h : Tk bs br w w2 x kind tok A n c ws wi) (k : ByteArray) : Tk bs br w w2 x kind k A n c ws (wi.setCell ⟨w2.heap.size + 1, 1, none⟩ (.string k)) := by
  have h1 := h.g1; have h2 := h.g2; have h3 := h.l1; have h4 := h.l2; have h5 := h.l3
  exact ⟨h.res.far (by simp only; omega) _, h.bh.far (by simp only; omega) _, h.bb.set (k := 1) (by simp) _, h.own.setCell (by simp only; omega) _, h.h.far (by simp only; omega) (by simp only; omega) _, h.q.setCell (by simp only; omega) _, h1, h2, h3, h4, by simpa using h5⟩
theorem Tk.setWs (h : Tk bs br w w2 x kind tok A n c ws wi) (hb : Below (w2.heap.size + 1 + 1) wi wj) {A' : Option Addr} {n' c' : Nat} {ws' : List Wr} (ho : OwnK writeK wj (w2.heap.size + 1 + 1) A' n' c' ws') : Tk bs br w w2 x kind tok A' n' c' ws' (wj.setCell ⟨w2.heap.size + 1, 2, none⟩ (.slice A' n' c')) := by
  have h1 := h.g1; have h2 := h.g2; have h3 := h.l1; have h4 := h.l2; have h5 := h.l3
  exact ⟨(h.res.below hb (by omega)).far (by simp only; omega) _, (h.bh.below hb (by omega)).far (by simp only; omega) _, (h.bb.below hb (by omega)).set (k := 2) (by simp) _, ho.setCell (by simp only; omega) _, (⟨h.h.s.below hb (by omega), h.h.r.below hb (by omega), h.h.ne⟩ : Hd wj bs br x).far (by simp only; omega) (by simp only; omega) _,
    Q.setCell (a := w) (h.q.below.trans (hb.mono (by omega))) (by simp only; omega) _, h1, h2, h3, h4, by have := hb.size; simp only [World.size_setCell]; omega⟩
end
theorem tkW_len (x : Bm.Hs) : (Bm.tkW x).2.1.length ≤ x.1.length := Nat.le_trans (tkT_len _ _) (Nat.le_trans (tkT_len _ _) (tkN_len _ _))
theorem tkWs_len : ∀ (n : Nat) (acc : List Wr) (x : Bm.Hs), (Bm.tkWs n acc x).1.length = acc.length + n
  | 0, acc, x => rfl
  | n + 1, acc, x => by rw [Bm.tkWs, tkWs_len n]; simp; omega
theorem tkWs_fold {v j : Nat} (h : j < v) (acc : List Wr) (x : Bm.Hs) : Bm.tkWs (v - j) acc x = Bm.tkWs (v - (j + 1)) (acc ++ [(Bm.tkW x).1]) (Bm.tkW x).2 := by
  obtain ⟨m, hm⟩ : ∃ m, v - j = m + 1 := ⟨v - j - 1, by omega⟩
  rw [hm, show v - (j + 1) = m by omega]; rfl

set_option maxHeartbeats 8000000 in
set_option maxRecDepth 100000 in
theorem btake_core (s : ByteArray) (w : World) (kd v : Nat) (y1 y2 y3 : Bm.Hs) (TK : ByteArray) (T : Bm.Bt × Nat)
    (K1 : ∀ bs br W, Hd W bs br (s.data.toList, true) → Calls Try.prog 63 #[.int .u64 2, ptr0 bs, ptr0 br] W (RetH bs br W (.int .u64 (kd : Int)) y1))
    (K2 : ∀ bs br W, Hd W bs br y1 → Calls Try.prog 65 #[.int .i64 16, ptr0 bs, ptr0 br] W (RetH bs br W (.string TK) y2))
    (K3 : ∀ bs br W, Hd W bs br y2 → Calls Try.prog 63 #[.int .u64 24, ptr0 bs, ptr0 br] W (RetH bs br W (.int .u64 (v : Int)) y3))
    (hT : T = Bm.fin (⟨(kd : Int), TK, (Bm.tkWs v [] y3).1⟩, (Bm.tkWs v [] y3).2)) (hkd : (kd : Int) ≤ 2) (hv : (v : Int) ≤ 24) (hl3 : y3.1.length ≤ maxLen) :
    Calls Try.prog 14 #[.string s] w (RetTB w T) := by
  have KA := Lib.hid K1
  have KB := Lib.hid K2
  have KC := Lib.hid K3
  have HT := Lib.hid hT
  have HL3 := Lib.hid hl3
  clear K1 K2 K3 hT hl3
  go_enter Try.func14, Try.ntmps14
  go_wp2_with fail
  refine (over_any s _).mono ?_
  rintro e w2 ⟨rfl, h2, q2⟩
  simp only [World.size_alloc] at h2
  have H2 := Lib.hid h2
  have Q2 := Lib.hid q2
  have hsz : w.heap.size + 1 + 1 + 1 < w2.heap.size := h2.lt.2
  simp only [World.size_alloc]
  clear h2 q2
  generalize hbs : w.heap.size + 1 = bs at H2 ⊢
  generalize hbr : bs + 1 + 1 = br at H2 ⊢
  have g1 : w.heap.size < bs := by omega
  have g2 : w.heap.size < br := by omega
  have g3 : bs < w2.heap.size := by omega
  have g4 : br < w2.heap.size := by omega
  clear hsz hbs hbr
  go_upto_region 3 with (fail)
  have X : Hid (Tk bs br w w2 (s.data.toList, true) 0 ⟨#[]⟩ none 0 0 [] ((w2.alloc (.cells #[numF bs br, textF bs br, doneF bs br] 83)).alloc (.cells #[.int .i64 0, .string ⟨#[]⟩, .slice none 0 0] 24))) := by
    refine Lib.hid ⟨?_, (Bx.new w2 [numF bs br, textF bs br, doneF bs br] 83).alloc _, ?_, OwnK.nil_ _ _ _, (H2.out.q ((Q.refl _).alloc _)).q ((Q.refl _).alloc _), (((((Q.refl w).alloc _).trans Q2.out).alloc _).alloc _), g1, g2, g3, g4, by simp⟩
    · exact ((((Bx.new w [.int .i64 0, .string ⟨#[]⟩, .slice none 0 0] 24).q Q2.out).alloc _).alloc _)
    · have := Bx.new (w2.alloc (.cells #[numF bs br, textF bs br, doneF bs br] 83)) [.int .i64 0, .string ⟨#[]⟩, .slice none 0 0] 24
      simpa using this
  change Code.wp _ _ _ _ ((w2.alloc (.cells #[numF bs br, textF bs br, doneF bs br] 83)).alloc (.cells #[.int .i64 0, .string ⟨#[]⟩, .slice none 0 0] 24))
  generalize ((w2.alloc (.cells #[numF bs br, textF bs br, doneF bs br] 83)).alloc (.cells #[.int .i64 0, .string ⟨#[]⟩, .slice none 0 0] 24)) = w3 at X ⊢
  clear Q2 H2
  obtain ⟨⟨c0, c1, c2⟩, _⟩ := X.out.bh.get3
  obtain ⟨⟨d0, d1, d2⟩, f0, f1, f2⟩ := X.out.bb.get3
  go_wp2_with fail
  refine (KA.out _ _ _ X.out.h).mono ?_
  rintro e w4 ⟨rfl, h3, t3⟩
  have X2 := Lib.hid (X.out.step h3 t3)
  clear X h3 t3 c0 c1 c2 d0 d1 d2 f0 f1 f2
  obtain ⟨⟨d0, d1, d2⟩, f0, f1, f2⟩ := X2.out.bb.get3
  go_upto_region 4 with (fail)
  have X := Lib.hid (X2.out.setKind (kd : Int))
  clear X2 d0 d1 d2 f0 f1 f2
  generalize w4.setCell ⟨w2.heap.size + 1, 0, none⟩ (.int .i64 (kd : Int)) = w5 at X ⊢
  obtain ⟨⟨c0, c1, c2⟩, _⟩ := X.out.bh.get3
  obtain ⟨⟨d0, d1, d2⟩, f0, f1, f2⟩ := X.out.bb.get3
  go_wp2_with fail
  refine (KB.out _ _ _ X.out.h).mono ?_
  rintro e w6 ⟨rfl, h3, t3⟩
  have X2 := Lib.hid (X.out.step h3 t3)
  clear X h3 t3 c0 c1 c2 d0 d1 d2 f0 f1 f2
  obtain ⟨⟨d0, d1, d2⟩, f0, f1, f2⟩ := X2.out.bb.get3
  go_upto_region 5 with (fail)
  have X := Lib.hid (X2.out.setTok TK)
  clear X2 d0 d1 d2 f0 f1 f2
  generalize w6.setCell ⟨w2.heap.size + 1, 1, none⟩ (.string TK) = w7 at X ⊢
  obtain ⟨⟨c0, c1, c2⟩, _⟩ := X.out.bh.get3
  obtain ⟨⟨d0, d1, d2⟩, f0, f1, f2⟩ := X.out.bb.get3
  go_wp2_with fail
  refine (KC.out _ _ _ X.out.h).mono ?_
  rintro e w8 ⟨rfl, h3, t3⟩
  have X0 := Lib.hid (X.out.step h3 t3)
  clear X h3 t3 c0 c1 c2 d0 d1 d2 f0 f1 f2 KA KB KC
  go_wp2
  go_loopw [20] (fun i wr => ∃ (j : Nat) (x : Bm.Hs) (acc : List Wr) (A : Option Addr) (c : Nat), j ≤ v ∧ i = .int .u64 j ∧ acc.length = j ∧ Tk bs br w w2 x (kd : Int) TK A acc.length c acc wr ∧ Bm.tkWs v [] y3 = Bm.tkWs (v - j) acc x ∧ x.1.length ≤ maxLen) (fun i _ => v - (intOf i).toNat)
  case atStart => exact ⟨0, y3, [], none, 0, Nat.zero_le _, rfl, rfl, X0.out, rfl, HL3.out⟩
  case round =>
    obtain ⟨j, x, acc, A, c, hj, rfl, hal, x1, hT, hxl⟩ := hrel
    have X := Lib.hid x1
    have HAl := Lib.hid hal
    have HTT := Lib.hid hT
    have HX := Lib.hid hxl
    clear x1 hT X0
    by_cases hlt : j < v
    · have hjv : (j : Int) < (v : Int) := by omega
      have HF := Lib.hid (tkWs_fold hlt acc x)
      have HW := Lib.hid (Nat.le_trans (tkW_len x) hxl)
      have KW := Lib.hid (fun W (h : Hd W bs br x) => hwrite_any bs br x W h HX.out)
      have hal2 : acc.length ≤ 24 := by omega
      clear hal hxl
      generalize Bm.tkW x = yy at HF HW KW
      obtain ⟨⟨ka, va, da⟩, y4⟩ := yy
      dsimp only at HF HW KW
      obtain ⟨⟨c0, c1, c2⟩, _⟩ := X.out.bh.get3
      obtain ⟨⟨d0, d1, d2⟩, f0, f1, f2⟩ := X.out.bb.get3
      go_upto_region 7 with (fail)
      refine wp_region_heldL 7 (fun w' => (w'.cell? ⟨w2.heap.size, 0, none⟩ = some (numF bs br) ∧ w'.cell? ⟨w2.heap.size, 1, none⟩ = some (textF bs br) ∧ w'.cell? ⟨w2.heap.size, 2, none⟩ = some (doneF bs br)) ∧ w'.cell? ⟨w2.heap.size + 1, 2, none⟩ = some (.slice A acc.length c)) (by kernel_rfl) ?szz0 (fun hHeld => ?rzz0)
      case szz0 =>
        exact ⟨⟨c0, c1, c2⟩, d2⟩
      case' rzz0 => skip
      refine wpAnyL_take (i := 0) (oi := ?ozz1) (v := ?vzz1) ?hzz1 ?azz1 ?bzz1 ?czz1 ?kzz1 ?qzz1 ?yzz1 ?szz1 ?rzz1
      case hzz1 => simp only [List.getElem?_toArray, List.getElem?_cons_zero]; rfl
      case azz1 => kernel_rfl
      case bzz1 => kernel_rfl
      case czz1 => kernel_rfl
      case kzz1 => kernel_rfl
      case yzz1 =>
        refine Or.inl ⟨by rfl, ?_⟩
        intro w hSw
        obtain ⟨⟨s0, s1, s2⟩, s3⟩ := hSw
        go_simp
        try with_reducible rfl
      case qzz1 => exact fun _ _ _ h => h
      case szz1 => first | assumption | trivial
      case' rzz1 => simp only [Act.put, List.setIfInBounds_toArray, List.set_cons_zero, List.set_cons_succ]
      refine wpAnyL_take (i := 1) (oi := ?ozz2) (v := ?vzz2) ?hzz2 ?azz2 ?bzz2 ?czz2 ?kzz2 ?qzz2 ?yzz2 ?szz2 ?rzz2
      case hzz2 => simp only [List.getElem?_toArray, List.getElem?_cons_zero, List.getElem?_cons_succ]; rfl
      case azz2 => kernel_rfl
      case bzz2 => kernel_rfl
      case czz2 => kernel_rfl
      case kzz2 => kernel_rfl
      case yzz2 =>
        refine Or.inl ⟨by rfl, ?_⟩
        intro w hSw
        obtain ⟨⟨s0, s1, s2⟩, s3⟩ := hSw
        go_simp
        try with_reducible rfl
      case qzz2 => exact fun _ _ _ h => h
      case szz2 => first | assumption | trivial
      case' rzz2 => simp only [Act.put, List.setIfInBounds_toArray, List.set_cons_zero, List.set_cons_succ]
      refine wpAnyL_take (i := 2) (oi := ?ozz3) (v := ?vzz3) ?hzz3 ?azz3 ?bzz3 ?czz3 ?kzz3 ?qzz3 ?yzz3 ?szz3 ?rzz3
      case hzz3 => simp only [List.getElem?_toArray, List.getElem?_cons_zero, List.getElem?_cons_succ]; rfl
      case azz3 => kernel_rfl
      case bzz3 => kernel_rfl
      case czz3 => kernel_rfl
      case kzz3 => kernel_rfl
      case yzz3 =>
        refine Or.inl ⟨by rfl, ?_⟩
        intro w hSw
        obtain ⟨⟨s0, s1, s2⟩, s3⟩ := hSw
        go_simp
        try with_reducible rfl
      case qzz3 => exact fun _ _ _ h => h
      case szz3 => first | assumption | trivial
      case' rzz3 => simp only [Act.put, List.setIfInBounds_toArray, List.set_cons_zero, List.set_cons_succ]
      refine wpAnyL_ready (rs := [3]) (by kernel_rfl) (by simp) ?_
      refine AllReadyL.cons (o := ?ozz8) ?hzz8 (fun K hK => ?kzz8) ?mzz8
      case hzz8 => simp only [List.getElem?_toArray, List.getElem?_cons_zero, List.getElem?_cons_succ]; rfl
      case kzz8 =>
        go_simp
        refine (KW.out _ X.out.drew.h).mono ?_
        rintro e w5 ⟨rfl, h5, t5⟩
        have X2 := Lib.hid (X.out.drew.step h5 t5)
        clear h5 t5
        go_wp2_with fail
        refine hK.out _ _ ?Szz8 (fun hHeld => ?Rzz8)
        case Szz8 =>
          exact ⟨X2.out.bh.get3.1, X2.out.bb.get3.1.2.2⟩
        case Rzz8 =>
          clear hK K
          try simp only [Act.put, List.setIfInBounds_toArray, List.set_cons_zero, List.set_cons_succ]
          refine wpAnyL_ready (rs := [4]) (by kernel_rfl) (by simp) ?_
          refine AllReadyL.cons (o := ?ozz7) ?hzz7 (fun K hK => ?kzz7) ?mzz7
          case hzz7 => simp only [List.getElem?_toArray, List.getElem?_cons_zero, List.getElem?_cons_succ]; rfl
          case kzz7 =>
            go_simp
            refine hK.out _ _ ?Szz7 (fun hHeld => ?Rzz7)
            case Szz7 =>
              exact ⟨(X2.out.ofQ ((Q.refl _).alloc (.cells #[.string ka, .string va, .bool da] 63))).bh.get3.1, (X2.out.ofQ ((Q.refl _).alloc (.cells #[.string ka, .string va, .bool da] 63))).bb.get3.1.2.2⟩
            case Rzz7 =>
              clear hK K
              try simp only [Act.put, List.setIfInBounds_toArray, List.set_cons_zero, List.set_cons_succ]
              refine wpAnyL_ready (rs := [5]) (by kernel_rfl) (by simp) ?_
              refine AllReadyL.cons (o := ?ozz6) ?hzz6 (fun K hK => ?kzz6) ?mzz6
              case hzz6 => simp only [List.getElem?_toArray, List.getElem?_cons_zero, List.getElem?_cons_succ]; rfl
              case kzz6 =>
                refine step_appKD writeK (by rfl) _ _ _ rfl (by rfl) (w2.heap.size + 1 + 1) A acc.length c acc (by rfl) (X2.out.ofQ ((Q.refl _).alloc (.cells #[.string ka, .string va, .bool da] 63))).own (some ⟨w5.heap.size, 0, none⟩) 1 1 [⟨ka, va, da⟩] (by rfl) (lit_write w5 ⟨ka, va, da⟩).lst (fun e => by cases e) (by show (acc.length + 1) * 40 ≤ _; omega) (X2.out.ofQ ((Q.refl _).alloc (.cells #[.string ka, .string va, .bool da] 63))).l3 ?_
                intro A6 c6 w6 o6 b6
                refine hK.out _ _ ?Szz6 (fun hHeld => ?Rzz6)
                case Szz6 =>
                  exact ⟨(((X2.out.ofQ ((Q.refl _).alloc (.cells #[.string ka, .string va, .bool da] 63))).bh.below b6 (by omega)).get3).1, (((X2.out.ofQ ((Q.refl _).alloc (.cells #[.string ka, .string va, .bool da] 63))).bb.below b6 (by omega)).get3).1.2.2⟩
                case Rzz6 =>
                  clear hK K
                  try simp only [Act.put, List.setIfInBounds_toArray, List.set_cons_zero, List.set_cons_succ]
                  refine wpAnyL_take (i := 6) (oi := ?ozz4) (v := ?vzz4) ?hzz4 ?azz4 ?bzz4 ?czz4 ?kzz4 ?qzz4 ?yzz4 ?szz4 ?rzz4
                  case hzz4 => simp only [List.getElem?_toArray, List.getElem?_cons_zero, List.getElem?_cons_succ]; rfl
                  case azz4 => kernel_rfl
                  case bzz4 => kernel_rfl
                  case czz4 => kernel_rfl
                  case kzz4 => kernel_rfl
                  case yzz4 =>
                    refine Or.inl ⟨by rfl, ?_⟩
                    intro w hSw
                    obtain ⟨⟨s0, s1, s2⟩, s3⟩ := hSw
                    go_simp
                    try with_reducible rfl
                  case qzz4 => exact fun _ _ _ h => h
                  case szz4 => first | assumption | trivial
                  case' rzz4 => simp only [Act.put, List.setIfInBounds_toArray, List.set_cons_zero, List.set_cons_succ]
                  refine wpAnyL_ready (rs := [7]) (by kernel_rfl) (by simp) ?_
                  refine AllReadyL.consK (o := ?ozz5) ?hzz5 ?lzz5 (fun K hK => ?kzz5) ?mzz5
                  case hzz5 => simp only [List.getElem?_toArray, List.getElem?_cons_zero, List.getElem?_cons_succ]; rfl
                  case lzz5 => kernel_rfl
                  case kzz5 =>
                    obtain ⟨⟨p0, p1, p2⟩, p3, p4, p5⟩ := ((X2.out.ofQ ((Q.refl _).alloc (.cells #[.string ka, .string va, .bool da] 63))).bb.below b6 (by omega)).get3
                    go_simp
                    refine hK.out _ _ ?Rzz5
                    case Rzz5 =>
                      clear hK K
                      try simp only [Act.put, List.setIfInBounds_toArray, List.set_cons_zero, List.set_cons_succ]
                      refine wpAnyH_done (by kernel_rfl) ?_ _
                      have X9 := Lib.hid ((X2.out.ofQ ((Q.refl _).alloc (.cells #[.string ka, .string va, .bool da] 63))).setWs b6 o6)
                      go_wp2
                      go_roundw
                      case rel => exact ⟨j + 1, y4, acc ++ [⟨ka, va, da⟩], A6, c6, by omega, by go_num, by rw [List.length_append, HAl.out]; rfl, by rw [List.length_append]; exact X9.out, by rw [HTT.out]; exact HF.out, HW.out⟩
                      case measure => simp [intOf]; omega
                  case' mzz5 => skip
                  exact AllReadyL.nil
              case' mzz6 => skip
              exact AllReadyL.nil
          case' mzz7 => skip
          exact AllReadyL.nil
      case' mzz8 => skip
      exact AllReadyL.nil
    · have hjv : j = v := by omega
      have HTl := Lib.hid (show Bm.tkWs v [] y3 = (acc, x) by rw [HTT.out, hjv, Nat.sub_self]; rfl)
      have HT2 := Lib.hid (show T = Bm.fin (⟨(kd : Int), TK, acc⟩, x) by rw [HT.out, HTl.out])
      have hal2 : acc.length ≤ 24 := by omega
      have hjn : ¬((j : Int) < (v : Int)) := by omega
      clear hjv hal hxl HTl HTT HT HX
      obtain ⟨⟨c0, c1, c2⟩, _⟩ := X.out.bh.get3
      obtain ⟨⟨d0, d1, d2⟩, f0, f1, f2⟩ := X.out.bb.get3
      have KD := Lib.hid (hdone_any bs br x wr X.out.h)
      have KM := Lib.hid (fun W q => may_any (kd : Int) TK A acc.length c acc W (X.out.own.lst.q q) (by unfold maxLen; omega))
      obtain ⟨xl, xo⟩ := x
      simp only at KD
      by_cases hd : (xo && decide (xl = [])) = true
      · rw [hd] at KD
        cases hm : Bm.may ⟨(kd : Int), TK, acc⟩ with
        | false =>
          rw [hm] at KM
          have HB := Lib.hid (HT2.out.trans (show Bm.fin (⟨(kd : Int), TK, acc⟩, (xl, xo)) = (⟨0, ⟨#[]⟩, []⟩, 3) by unfold Bm.fin; rw [if_neg (by rw [hm]; simp)]))
          clear hd hm
          go_wp2_with fail
          refine KD.out.mono ?_
          rintro e w9 ⟨rfl, q9⟩
          have Y := Lib.hid (X.out.ofQ q9)
          have Q9 := Lib.hid q9
          clear q9 c0 c1 c2 d0 d1 d2 f0 f1 f2 X
          obtain ⟨⟨d0, d1, d2⟩, f0, f1, f2⟩ := Y.out.bb.get3
          go_wp2_with fail
          refine (KM.out _ Q9.out).mono ?_
          rintro e w10 ⟨rfl, q10⟩
          have Y2 := Lib.hid (Y.out.ofQ q10)
          clear q10 d0 d1 d2 f0 f1 f2 Y Q9
          obtain ⟨⟨p0, p1, p2⟩, p3, p4, p5⟩ := Y2.out.res.get3
          go_wp2
          obtain ⟨⟨r0, r1, r2⟩, _⟩ := (Y2.out.res.set3 (.int .i64 0) (.string ⟨#[]⟩) (.slice none 0 0)).get3
          refine bodyPost_ret (v := .tuple #[batV 0 ⟨#[]⟩ none 0 0, .int .i64 3]) (by simp [results, Try.results14, go_sem, r0, r1, r2]) rfl ?_
          rw [HB.out]
          exact ⟨none, 0, rfl, OwnK.nil_ _ _ _, Y2.out.q.set3 (Nat.le_refl _) _ _ _⟩
        | true =>
          rw [hm] at KM
          have HB := Lib.hid (HT2.out.trans (show Bm.fin (⟨(kd : Int), TK, acc⟩, (xl, xo)) = (⟨(kd : Int), TK, acc⟩, 0) by unfold Bm.fin; rw [if_pos ⟨by simp at hd; exact hd.1, by simp at hd; exact hd.2, hm⟩]))
          clear hd hm
          go_wp2_with fail
          refine KD.out.mono ?_
          rintro e w9 ⟨rfl, q9⟩
          have Y := Lib.hid (X.out.ofQ q9)
          have Q9 := Lib.hid q9
          clear q9 c0 c1 c2 d0 d1 d2 f0 f1 f2 X
          obtain ⟨⟨d0, d1, d2⟩, f0, f1, f2⟩ := Y.out.bb.get3
          go_wp2_with fail
          refine (KM.out _ Q9.out).mono ?_
          rintro e w10 ⟨rfl, q10⟩
          have Y2 := Lib.hid (Y.out.ofQ q10)
          clear q10 d0 d1 d2 f0 f1 f2 Y Q9
          obtain ⟨⟨d0, d1, d2⟩, f0, f1, f2⟩ := Y2.out.bb.get3
          obtain ⟨⟨p0, p1, p2⟩, p3, p4, p5⟩ := Y2.out.res.get3
          go_wp2
          obtain ⟨⟨r0, r1, r2⟩, _⟩ := (Y2.out.res.set3 (.int .i64 (kd : Int)) (.string TK) (.slice A acc.length c)).get3
          refine bodyPost_ret (v := .tuple #[batV (kd : Int) TK A acc.length c, .int .i64 0]) (by simp [results, Try.results14, go_sem, r0, r1, r2]) rfl ?_
          rw [HB.out]
          exact ⟨A, c, rfl, ((((Y2.out.own.setCell (p := ⟨w.heap.size, 0, none⟩) (by have := Y2.out.g1; have := Y2.out.l1; simp only; omega) _).setCell (p := ⟨w.heap.size, 1, none⟩) (by have := Y2.out.g1; have := Y2.out.l1; simp only; omega) _).setCell (p := ⟨w.heap.size, 2, none⟩) (by have := Y2.out.g1; have := Y2.out.l1; simp only; omega) _).lower (by have := Y2.out.g1; have := Y2.out.l1; omega)), Y2.out.q.set3 (Nat.le_refl _) _ _ _⟩
      · have hd' : (xo && decide (xl = [])) = false := by simpa using hd
        rw [hd'] at KD
        have HB := Lib.hid (HT2.out.trans (show Bm.fin (⟨(kd : Int), TK, acc⟩, (xl, xo)) = (⟨0, ⟨#[]⟩, []⟩, 3) by unfold Bm.fin; rw [if_neg (by rintro ⟨h1, h2, _⟩; simp only at h1 h2; rw [h1, h2] at hd'; simp at hd')]))
        clear hd hd'
        go_wp2_with fail
        refine KD.out.mono ?_
        rintro e w9 ⟨rfl, q9⟩
        have Y2 := Lib.hid (X.out.ofQ q9)
        clear q9 c0 c1 c2 d0 d1 d2 f0 f1 f2 X
        obtain ⟨⟨p0, p1, p2⟩, p3, p4, p5⟩ := Y2.out.res.get3
        go_wp2
        obtain ⟨⟨r0, r1, r2⟩, _⟩ := (Y2.out.res.set3 (.int .i64 0) (.string ⟨#[]⟩) (.slice none 0 0)).get3
        refine bodyPost_ret (v := .tuple #[batV 0 ⟨#[]⟩ none 0 0, .int .i64 3]) (by simp [results, Try.results14, go_sem, r0, r1, r2]) rfl ?_
        rw [HB.out]
        exact ⟨none, 0, rfl, OwnK.nil_ _ _ _, Y2.out.q.set3 (Nat.le_refl _) _ _ _⟩

theorem btake_any (s : ByteArray) (w : World) (hs : s.size ≤ maxLen) :
    Calls Try.prog 14 #[.string s] w (RetTB w (Bm.take s.data.toList)) := by
  have n1 := tkN_le 2 (s.data.toList, true)
  have l1 := tkN_len 2 (s.data.toList, true)
  have l2 := tkT_len 16 (Bm.tkN 2 (s.data.toList, true)).2
  have n3 := tkN_le 24 (Bm.tkT 16 (Bm.tkN 2 (s.data.toList, true)).2).2
  have l3 := tkN_len 24 (Bm.tkT 16 (Bm.tkN 2 (s.data.toList, true)).2).2
  have hs0 : s.data.toList.length ≤ maxLen := by rw [Rn.size_data]; exact hs
  exact btake_core s w (Bm.tkN 2 (s.data.toList, true)).1 (Bm.tkN 24 (Bm.tkT 16 (Bm.tkN 2 (s.data.toList, true)).2).2).1 (Bm.tkN 2 (s.data.toList, true)).2 (Bm.tkT 16 (Bm.tkN 2 (s.data.toList, true)).2).2 (Bm.tkN 24 (Bm.tkT 16 (Bm.tkN 2 (s.data.toList, true)).2).2).2 _ _
    (fun bs br W h => hnum_any 2 bs br (s.data.toList, true) W h hs0 (by omega)) (fun bs br W h => htext_any 16 bs br _ W h (Nat.le_trans l1 hs0) (by omega) (by omega)) (fun bs br W h => hnum_any 24 bs br _ W h (Nat.le_trans l2 (Nat.le_trans l1 hs0)) (by omega))
    (by simp only [Bm.take, Bm.tkB, Bm.tkH]) (by omega) (by omega) (Nat.le_trans l3 (Nat.le_trans l2 (Nat.le_trans l1 hs0)))
end Go.Proofs.Ytlbjobbmjccekaa
