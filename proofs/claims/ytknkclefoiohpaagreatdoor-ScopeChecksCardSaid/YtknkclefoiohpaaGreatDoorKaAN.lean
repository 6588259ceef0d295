import Derived.Test.YtknkclefoiohpaaGreatDoorKaE
import Derived.Test.YtknkclefoiohpaaGreatDoorKaAM
import Derived.Test.YtknkclefoiohpaaGreatDoorCards
import Derived.Test.YtknkclefoiohpaaGreatDoorTie
import Derived.SevenTiedAt
set_option maxHeartbeats 12800000
namespace Go.Proofs.YtknkclefoiohpaaGreatDoor.scopeChecks
open Go.ChangeShapes Go.WideShapes Go.ChangeAt Go.RowKit Lx Tx Go.Shelf
open Go.ChangeMaps (open_string shut_string)
set_option maxRecDepth 100000
theorem walk(s:ByteArray)(w:World)(hs:s.size<=maxLen):Calls Tryz.prog 6 #[.string s] w λe w'=>e=.returned (.bool true)/\Below w.heap.size w w':=zkV s w hs
theorem lifted(os:Os)(started:os.Started)(H:Type)(enc:TypeId × Value->H):ReturnsInHanded {} Tryz.checked os 6 .any (λw args=>(Rows.scopeChecksSpec.pre enc Tryz.prog Tryz.f6 Rows.scopeChecksRow.domain false w args/\laidMetH Tryz.prog theLaid w)/\sizedMet enc Tryz.prog Tryz.f6 (OpenSpec.ofChange Rows.scopeChecksSpec) false w args)
   (Rows.scopeChecksSpec.post enc Tryz.prog Tryz.f6 false true false false):=by
 refine returnsInHanded_of_change_and (C:=Tryz.checked) (X:=λw _=>laidMetH Tryz.prog theLaid w) (λ_ _ _ hh h=>h.of_heap hh) ownK started (by kernel_rfl) Tryz.func6
  (ChangeSpec.witness_shaped (enc:=enc) (C:=Tryz.checked) (os:=os) (X:=λw _=>laidMetH Tryz.prog theLaid w) false (World.laidAll Tryz.prog os theLaid) #[.string ⟨#[]⟩] 8 (World.laidAll_os _ _ _)
   (zhk os) (by kernel_rfl) (by kernel_rfl) (by kernel_rfl)
   (zk5 os _)) ?_
 intro W base args ds gs before n9 hW hc _ hL _;have rq:∀(j:Nat) t v,Tryz.f6.params[j]?=some t->args[j]?=some v->Value.okWide Tryz.prog W .any base t v:=n9;have hW':=hW;obtain⟨p,q,sR,hV,rfl,_,_⟩:=hW;have hA:DataW.TrodAll enc Tryz.prog W 0 (λ_=>true) true Tryz.f6.params.toList args.toList ds p:=sR;rw[Tryz.params6]at hA rq
 obtain⟨v0,vs0,d0,ds0,p0,q0,sb,rfl,rfl,h0,r0⟩:=trodAll_cons hA;obtain⟨rfl,rfl,rfl⟩:=trodAll_nil r0;obtain rfl:args=#[v0]:=by cases args;simp_all
 obtain⟨rfl,rfl⟩:=trodVars_none hV;obtain⟨a0,rfl,rfl,rfl,w0⟩:=open_string Tryz.underlying9 (rq 0 9 v0 rfl rfl) h0;clear sR n9;simp only[uW]at hW';refine(walk a0 W w0).mono λe W' ⟨he,hg⟩=>?_;subst he;exact⟨_,rfl,_,_,_,[],[],[],hW',trodAll_cons_mk (shut_bool Tryz.underlying4 _) trodAll_mk0,(trodAll_cons_mk (shut_string Tryz.underlying9 w0) trodAll_mk0),rfl,hg.frame _,λh=>by cases h⟩
theorem over:Rows.scopeChecksRow.holds Tryz.pinned (OpenSpec.ofChange Rows.scopeChecksSpec) :=
 OpenClaim.holds_of_wide 6 Tryz.f6 rfl rfl rfl rfl rfl rfl rfl ⟨rfl,rfl,rfl,rfl,rfl⟩ rfl rfl rfl rfl rfl (by kernel_rfl) Tryz.func6 (by kernel_rfl)
  (vg (by kernel_rfl)) (by unfold Func.isWrapper;first|(rw[ud (by decide +kernel)];kernel_rfl)|(rw[ue (by decide +kernel)];exact⟨rfl,rfl⟩))
  (λos started H enc _=>lifted os started H enc)
theorem proved:Rows.ScopeChecksCardSaid :=
 Claim7.holds_tied_plain_at .later [] [.data,.data,.data,.sentinel,.sentinel] true _ true
  over (λ_ h=>by cases h) (by kernel_rfl) (λ_ h=>by cases h) scopeChecks_row_tie rfl ⟨rfl,rfl⟩ (by kernel_rfl) rfl
  (λf fn hf hfn=>by
   obtain rfl:f=6:=Option.some.inj ((show Tryz.prog.funcNamed "savant/savantlaw09.ScopeChecks" = some 6 by kernel_rfl).symm.trans hf) |>.symm;obtain rfl:fn=Tryz.f6:=(Option.some.inj (Tryz.func6.symm.trans hfn)).symm;exact⟨by kernel_rfl,λj t ht=>by
    rw[Tryz.params6]at ht
    have hm:t∈[9]:=by
     simpa using Array.mem_of_getElem? ht
    have dJ:([9].all λu=>!Tryz.prog.wantsStandIn u)=true:=by kernel_rfl
    exact(show Tryz.prog.wantsStandIn t=false by simpa using List.all_eq_true.1 dJ t hm)⟩)
  (by kernel_rfl)
#print axioms proved
end Go.Proofs.YtknkclefoiohpaaGreatDoor.scopeChecks
