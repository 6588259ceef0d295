import Derived.Test.YtfafilmklhnngaaGreatDoorBkR
import Derived.Defers
import Derived.Recover
set_option maxHeartbeats 12800000
namespace Go.Proofs.YtfafilmklhnngaaGreatDoor
open Go.RowKit Lx Tx Go.Maps Go.WideMaps
set_option maxRecDepth 100000
def CovI(w:World)(N mb:Nat)(X:ByteArray)(env:List (Name × Nat)):Prop :=
 Blk w N 116 #[.map (some mb)]/\Blk w (N+1) 9 #[.string X]/\Blk w (N+2) 3 #[mkInt.valO (look X.data.toList env)]/\Blk w (N+3) 4 #[.bool (look X.data.toList env).isSome]
theorem CovI.keep {w w':World} {N mb:Nat} {X:ByteArray} {env:List (Name × Nat)}(h:CovI w N mb X env)(hk:∀k,N<=k->k<=N+3->w'.heap[k]?=w.heap[k]?):CovI w' N mb X env :=
 ⟨h.1.same (hk _ (by omega) (by omega)),h.2.1.same (hk _ (by omega) (by omega)),h.2.2.1.same (hk _ (by omega) (by omega)),h.2.2.2.same (hk _ (by omega) (by omega))⟩
def zf3(N:Nat):Value:=.func (.func 151) #[] #[.pointer (some ⟨N+3,0,none⟩),.pointer (some ⟨N+2,0,none⟩),.pointer (some ⟨N,0,none⟩),.pointer (some ⟨N+1,0,none⟩)]
theorem zfD(mb:Nat)(env:List (Name × Nat))(X:ByteArray)(v:Nat)(V:Int)(hV:V=v)(w:World)(h:MapE mkInt w mb env)(hX:X.size<=maxLen)(hn:env.length<1000000000):Calls Tryz.prog 105 #[.map (some mb),.string X,.int .i64 V] w λe w'=>e=.returned (zf3 w.heap.size)/\CovI w' w.heap.size mb X env/\MapE mkInt w' mb ((X.data.toList,v)::env)/\Chg (only mb) w w':=by
 subst hV;have ah:=h.lt;have h1:MapE mkInt ((w.alloc (.cells #[.map (some mb)] 116)).alloc (.cells #[.string X] 9)) mb env :=
  h.keep ((Below.heap_alloc _ _ _ (by simp;omega)).trans (Below.heap_alloc _ _ _ ah))
 have bV:=h1.getOk X hX;have hlk':(Instr.lookup 116 (.map (some mb)) (.string X) true).run Tryz.prog ((w.alloc (.cells #[.map (some mb)] 116)).alloc (.cells #[.string X] 9))=.ok (.tuple #[mkInt.valO (look X.data.toList env),.bool (look X.data.toList env).isSome]) ((w.alloc (.cells #[.map (some mb)] 116)).alloc (.cells #[.string X] 9)):=bV;obtain⟨o,ho⟩:∃o:Int,mkInt.valO (look X.data.toList env)=.int .i64 o:=by
  cases look X.data.toList env with
  |none=>exact⟨0,rfl⟩
  |some u=>exact⟨(u:Nat),rfl⟩
 obtain⟨q,hq⟩:∃q,(look X.data.toList env).isSome=q:=⟨_,rfl⟩;unfold CovI;rw[ho,hq]at hlk'
 rw[ho,hq]
 have cB:MapE mkInt ((((w.alloc (.cells #[.map (some mb)] 116)).alloc (.cells #[.string X] 9)).alloc (.cells #[.int .i64 o] 3)).alloc (.cells #[.bool q] 4)) mb env :=
  h1.keep ((Below.heap_alloc _ _ _ (by simp;omega)).trans (Below.heap_alloc _ _ _ (by simp;omega)))
 have HM:=CS cB;have HX:=CS hX;have HN:=CS hn;have iI:∀(fn:Fn) (first cap:Array Value) (w:World),(Instr.makeFunc fn first cap).run Tryz.prog w=.ok (.func fn first cap) w:=λ_ _ _ _=>rfl;clear h h1 bV ho hq cB hX hn;go_enter Tryz.func105,Tryz.ntmps105
 go_wp2_with (at_mapUpdate;refine zcT mkInt _ rfl _ _ _ rfl mb env rfl HM.out HN.out X HX.out rfl v trivial rfl ?_;intro w1 aX aY)
 go_ret
 have hk:∀k,k<w.heap.size+4->k≠mb->w1.heap[k]? =((((w.alloc (.cells #[.map (some mb)] 116)).alloc (.cells #[.string X] 9)).alloc (.cells #[.int .i64 o] 3)).alloc (.cells #[.bool q] 4)).heap[k]?:=λk hk af=>aY.block k (by simp;omega) (λe=>af (by injection e));refine⟨rfl,⟨?_,?_,?_,?_⟩,aX,?_⟩
 ·exact(hk _ (by omega) (by omega)).trans ((((Blk.alloc (heap_alloc_new w _) _).alloc _).alloc _))
 ·refine(hk _ (by omega) (by omega)).trans ?_
  have:=heap_alloc_new (w.alloc (.cells #[.map (some mb)] 116)) (.cells #[.string X] 9);rw[show(w.alloc (.cells #[.map (some mb)] 116)).heap.size=w.heap.size+1 by simp]at this
  exact(Blk.alloc this _).alloc _
 ·refine(hk _ (by omega) (by omega)).trans ?_
  have:=heap_alloc_new ((w.alloc (.cells #[.map (some mb)] 116)).alloc (.cells #[.string X] 9)) (.cells #[.int .i64 o] 3);rw[show((w.alloc (.cells #[.map (some mb)] 116)).alloc (.cells #[.string X] 9)).heap.size=w.heap.size+2 by simp]at this
  exact Blk.alloc this _
 ·refine(hk _ (by omega) (by omega)).trans ?_
  have:=heap_alloc_new (((w.alloc (.cells #[.map (some mb)] 116)).alloc (.cells #[.string X] 9)).alloc (.cells #[.int .i64 o] 3)) (.cells #[.bool q] 4);rw[show(((w.alloc (.cells #[.map (some mb)] 116)).alloc (.cells #[.string X] 9)).alloc (.cells #[.int .i64 o] 3)).heap.size=w.heap.size+3 by simp]at this
  exact this
 ·exact(((((Chg.refl (only mb) w).alloc _).alloc _).alloc _).alloc _).grown aY (λk hk=>.inr (by injection hk with hk;exact hk.symm))
theorem zad {w:World} {g:Nat} {t:TypeId} {a0:Value}(h:Blk w g t #[a0]):w.cell? ⟨g,0,none⟩=some a0/\w.frozen? ⟨g,0,none⟩=false/\g<w.heap.size:=⟨h.cell 0,h.frozen 0,h.lt⟩
theorem zed(N mb:Nat)(env:List (Name × Nat))(X:ByteArray)(v:Nat)(u:FrameMode)(w:World)(hc:CovI w N mb X env)(h:MapE mkInt w mb ((X.data.toList,v)::env))(eB:Canon (envD mkInt.enc env))(hX:X.size<=maxLen)(hn:env.length<1000000000):CallsD Tryz.prog 151 #[.pointer (some ⟨N+3,0,none⟩),.pointer (some ⟨N+2,0,none⟩),.pointer (some ⟨N,0,none⟩),.pointer (some ⟨N+1,0,none⟩)] u w λe u' w'=>u'=u/\e=.returned (.tuple #[])/\MapE mkInt w' mb env/\Chg (only mb) w w':=by
 obtain⟨h0,h1,h2,h3⟩:=hc;obtain⟨a0,-,l0⟩:=zad h0;obtain⟨a1,-,l1⟩:=zad h1;obtain⟨a2,-,l2⟩:=zad h2;obtain⟨a3,-,l3⟩:=zad h3;clear h0 h1 h2 h3;have HM:=CS h;have HX:=CS hX;have HN:=CS hn;have HC:=CS eB;cases hl:look X.data.toList env with
 |none =>
  rw[hl]at a2 a3
  replace a3:w.cell? ⟨N+3,0,none⟩=some (.bool false):=a3;have HL:=CS hl;clear h hX hn eB hl a2;go_enter_d Tryz.func151,Tryz.ntmps151
  go_wp2_with (at_delete;refine zft mkInt _ rfl _ _ rfl mb env rfl X v HM.out HL.out HC.out HX.out rfl ?_;intro w1 aX aY)
  go_end0
  exact⟨rfl,aX,(Chg.refl (only mb) w).grown aY (λk hk=>.inr (by injection hk with hk;exact hk.symm))⟩
 |some y =>
  rw[hl]at a2 a3
  replace a3:w.cell? ⟨N+3,0,none⟩=some (.bool true):=a3;replace a2:w.cell? ⟨N+2,0,none⟩=some (.int .i64 (y:Nat)):=a2;have HL:=CS hl;clear h hX hn eB hl;go_enter_d Tryz.func151,Tryz.ntmps151
  go_wp2_with (at_mapUpdate;refine zfs mkInt _ rfl _ _ _ rfl mb env rfl X v y HM.out HL.out HC.out HN.out HX.out rfl trivial rfl ?_;intro w1 aX aY)
  go_end0
  exact⟨rfl,aX,(Chg.refl (only mb) w).grown aY (λk hk=>.inr (by injection hk with hk;exact hk.symm))⟩
end Go.Proofs.YtfafilmklhnngaaGreatDoor
