/- For every room and every list of batches: behind each of at most 60 commits a check; one that is OK leaves the run's number one higher, the log's begin at the next segment, and neither the last segment nor the last run; one that isn't leaves the state. No condition. -/
import Derived.Test.YtajidconlmhjfaaGreatDoorMKvRunsWalk
set_option linter.unusedVariables false
set_option linter.unusedSimpArgs false
set_option maxRecDepth 100000
namespace Go.Proofs.YtajidconlmhjfaaGreatDoor.kvRuns
open Go.ChangeShapes Go.WideShapes Go.ChangeAt Go.RowKit Dkm Prm Km Wm
theorem opened (W:World) (args:Array Value) (hn:args.size=2) (h:∀ (j:Nat) t v,Tryz.f7.params[j]? = some t→args[j]? = some v→RdV W t v∧(false=true→RdU W t v.cells.toList)) (hL:laidMetH Tryz.prog Rows.kvRunsRow.laid W) :
    Calls Tryz.prog 7 args W fun e W'=>e=.returned (.bool true)∧Q W W':=by
  obtain ⟨v0,v1,rfl⟩:=args2 hn
  rw [Tryz.params7] at h
  obtain ⟨room,e0,r0⟩:=(h 0 3 v0 rfl rfl).1.int Tryz.underlying3
  obtain ⟨A0,n0,c0,e1,r1⟩:=(h 1 64 v1 rfl rfl).1.slice Tryz.underlying64
  subst e0 e1
  obtain ⟨A,n,c,rl,e,iA,bl,hbl,hst⟩:=open_batches r1
  simp only [List.cons.injEq,Value.slice.injEq,and_true] at e
  obtain ⟨rfl,rfl,rfl⟩:=e
  have hl:=kt_laid2 hL
  exact walk room A0 n0 c0 rl bl W hl.1 hl.2 (wf_i64 r0).2 iA hbl hst
theorem start_met (os:Os):laidMetH Tryz.prog Rows.kvRunsRow.laid ((World.doorLaid Tryz.prog 600 os).forCall (fun _ _=>0) ⟨#[],#[.int .i64 0,.slice none 0 0],[]⟩).memory:=
  laidMetH_of_parts3 (fuel:=8) (laidMet_of_run' 8 (by kernel_rfl) (by kernel_rfl)) (by kernel_rfl) (by kernel_rfl)
theorem reads (os:Os) {H:Type} (enc:TypeId×Value→H):∃ places,DataW.whole enc Tryz.prog ((World.doorLaid Tryz.prog 600 os).forCall (fun _ _=>0) ⟨#[],#[.int .i64 0,.slice none 0 0],[]⟩).memory Tryz.f7.params.toList Rows.kvRunsSpec.vars false (#[.int .i64 0,.slice none 0 0]:Array Value).toList 8=some ([.lit (.int .i64 0),.nil],[],places):=
  ⟨[],by kernel_rfl⟩
theorem lifted (os:Os) (started:os.Started) (H:Type) (enc:TypeId×Value→H) (F:Stop.Interp) :
    ReturnsInHanded {} Tryz.checked os 7 .any ((OpenSpec.ofChange Rows.kvRunsSpec).preRow enc Tryz.prog Tryz.f7 Rows.kvRunsRow.domain false Rows.kvRunsRow.laid) (((OpenSpec.ofChange Rows.kvRunsSpec).at F).post enc Tryz.prog Tryz.f7 false true false false):=by
  obtain ⟨places,hx⟩:=reads os enc
  refine returnsInHanded_of_row (C:=Tryz.checked) (s:=OpenSpec.ofChange Rows.kvRunsSpec) ownKnob_ started (by kernel_rfl) Tryz.func7
    (witness_row_atRef (enc:=enc) (C:=Tryz.checked) false (World.doorLaid Tryz.prog 600 os) #[.int .i64 0,.slice none 0 0] rfl (by kernel_rfl) (by kernel_rfl) (by kernel_rfl)
      (OpenSpec.preRow_of_cond 8 hx (by kernel_rfl) (fun k hk=>by cases hk) (by kernel_rfl) (start_met os))) ?_
  intro W base args ds gs before hval hW _ hcond hsz hL _ _
  exact framedC (s:=Rows.kvRunsSpec) false Rows.kvRunsRow.laid 2 (by rw [Tryz.params7];rfl) rfl (by kernel_rfl) (by kernel_rfl)
    (fun H ds h=>by match ds,h with | [d0,d1],_=>exact ⟨rfl,rfl,rfl⟩)
    opened H enc W base args ds gs before hval hW (fun h=>by cases h) hsz hL
theorem over:Rows.KvRunsSaid:=
  OpenClaim.holds_of_cond 7 Tryz.f7 rfl rfl rfl rfl rfl rfl rfl ⟨rfl,rfl,rfl,rfl,rfl⟩ rfl rfl rfl rfl rfl (by kernel_rfl) Tryz.func7 (by kernel_rfl)
    (of_decide_eq_true (by kernel_rfl)) (by unfold Func.isWrapper;first | (rw [if_pos (by decide +kernel)];kernel_rfl) | (rw [if_neg (by decide +kernel)];exact ⟨rfl,rfl⟩))
    (fun os started H enc _ F=>by rw [OpenClaim.pre_eq_preRow];exact lifted os started H enc F)
theorem plain (f:FuncId) (fn:Func) (hf:Tryz.pinned.checked.prog.funcNamed "stanchion/stanchionlaw08.KvRuns" = some f) (hfn:Tryz.pinned.checked.prog.funcs[f]? = some fn) :
    true=Tryz.pinned.checked.prog.looks []∧∀ (j:Nat) t,fn.params[j]? = some t→Tryz.pinned.checked.prog.wantsStandIn t=false:=by
  obtain rfl:f = 7 := Option.some.inj ((show Tryz.prog.funcNamed "stanchion/stanchionlaw08.KvRuns" = some 7 by kernel_rfl).symm.trans hf) |>.symm
  obtain rfl:fn=Tryz.f7 := (Option.some.inj (Tryz.func7.symm.trans hfn)).symm
  refine ⟨by kernel_rfl,fun j t ht=>?_⟩
  have h0:(Tryz.f7.params.toList.all fun t=>!(Tryz.prog.wantsStandIn t))=true:=by kernel_rfl
  have h1:=List.all_eq_true.1 h0 t (by rw [←Array.getElem?_toList] at ht;exact List.mem_of_getElem? ht)
  exact (by simpa using h1:Tryz.prog.wantsStandIn t=false)
theorem proved:Rows.KvRunsCardSaid:=
  Claim7.holds_tied_plain_at .later [] _ _ _ _ over (fun _ h=>by cases h) (by kernel_rfl) (fun _ h=>by cases h) kvRuns_row_tie rfl ⟨rfl,rfl⟩ (by kernel_rfl) rfl plain (by kernel_rfl)
end Go.Proofs.YtajidconlmhjfaaGreatDoor.kvRuns
