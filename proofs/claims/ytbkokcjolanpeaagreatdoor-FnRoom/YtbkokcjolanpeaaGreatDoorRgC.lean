import Derived.Test.YtbkokcjolanpeaaGreatDoorRgB
import Derived.Maps.AppendAt
import Derived.Deep.SlicePairs
import Derived.Deep.MidRow
namespace Go.Proofs.YtbkokcjolanpeaaGreatDoor
open Go.RowKit
structure Sm (ts:List Nat) (w w':World):Prop where
 size:w.heap.size ≤ w'.heap.size
 stay:∀ (k:Nat) (o:Obj),w.heap[k]? = some o → (∀ cs t q,o = .cells cs t q → t ∉ ts) → w'.heap[k]? = some o
theorem Sm.refl (ts:List Nat) (w:World):Sm ts w w:=⟨Nat.le_refl _,fun _ _ h _=>h⟩
theorem Sm.trans {ts:List Nat} {a b c:World} (h:Sm ts a b) (k:Sm ts b c):Sm ts a c:=⟨Nat.le_trans h.size k.size,fun i o hi ho=>k.stay i o (h.stay i o hi ho) ho⟩
theorem Sm.mono {ts us:List Nat} {a b:World} (h:Sm ts a b) (hs:∀ t,t ∈ ts → t ∈ us):Sm us a b:=⟨h.size,fun i o hi ho=>h.stay i o hi (fun cs t q e ht=>ho cs t q e (hs t ht))⟩
theorem Sm.below {ts:List Nat} {w w':World} (h:Below w.heap.size w w'):Sm ts w w':=⟨h.size,fun i _ hi _=>(h.block i (Array.getElem?_eq_some_iff.1 hi).1).trans hi⟩
theorem Sm.grown {ts:List Nat} {w w':World} {row:Option Nat} (h:w.grownBy w' row) (hr:∀ g,row = some g → ∃ cs t q,w.heap[g]? = some (.cells cs t q) ∧ t ∈ ts):Sm ts w w':=by
 refine ⟨h.size,fun i o hi ho=>?_⟩
 by_cases e:some i = row
 · obtain ⟨cs,t,q,h1,h2⟩:=hr i e.symm
   rw [h1] at hi
   cases hi
   exact absurd h2 (ho cs t q rfl)
 · rw [h.block i (Array.getElem?_eq_some_iff.1 hi).1 e];exact hi
theorem Sm.setCell {ts:List Nat} {w:World} {g t:Nat} {cs:List Value} (h:Blk w g t cs) (ht:t ∈ ts) (j:Nat) (v:Value):Sm ts w (w.setCell ⟨g,j,none⟩ v):=by
 refine ⟨by simp [World.setCell],fun i o hi ho=>?_⟩
 by_cases e:i = g
 · subst e
   have h2:w.heap[i]? = some (.cells cs.toArray t (0,0)):=h
   rw [h2] at hi
   cases hi
   exact absurd ht (ho _ t _ rfl)
 · rw [Below.heap_setCell w ⟨g,j,none⟩ v i e];exact hi
theorem Blk.sm {ts:List Nat} {w w':World} {g t:Nat} {cs:List Value} (h:Blk w g t cs) (k:Sm ts w w') (ht:t ∉ ts):Blk w' g t cs :=
 k.stay g _ h (fun _ _ _ e=>by cases e;exact ht)
theorem own_sm {ts:List Nat} {w w':World} {base e size n:Nat} {v:Value} {xs:List Value} (h:w.ownsRow base e size v n xs) (k:Sm ts w w') (ht:e ∉ ts):w'.ownsRow base e size v n xs:=by
 refine ⟨h.1,?_⟩
 rcases h.2 with hz | ⟨g,cap,cur,hv,hb,hg,rest⟩
 · exact .inl hz
 · exact .inr ⟨g,cap,cur,hv,hb,k.stay g _ hg (fun _ _ _ e=>by cases e;exact ht),rest⟩
theorem own_typed {w:World} {base e size n:Nat} {v:Value} {xs:List Value} (h:w.ownsRow base e size v n xs):∀ g,v.ownBlock = some g → ∃ cs t q,w.heap[g]? = some (.cells cs t q) ∧ t ∈ [e]:=by
 intro g hg
 rcases h.2 with ⟨hz,-⟩ | ⟨g',cap,cur,hv,hb,hh,rest⟩
 · rw [hz] at hg;cases hg
 · rw [hv] at hg;cases hg;exact ⟨cur,e,_,hh,by simp⟩
abbrev Ent:=Int × ByteArray × Int × ByteArray × Int
def entC (e:Ent):List Value:=[.int .i64 e.1,.string e.2.1,.int .i64 e.2.2.1,.string e.2.2.2.1,.int .i64 e.2.2.2.2]
def lineC (l:Int × Int × ByteArray):List Value:=[.int .i64 l.1,.int .i64 l.2.1,.string l.2.2]
def sentC (s:Int × Value):List Value:=[.int .i64 s.1,s.2]
structure SS where
 mst:Value
 lnk:Value
 rts:Value
 room:Int
 kys:Value
 hnd:Value
 clock:Int
 drw:Value
 next:Int
 W:List Ent
 S:List (Int × Value)
 L:List (Int × Int × ByteArray)
def sesC (s:SS) (wv sv lv:Value):List Value:=[s.mst,s.lnk,s.rts,.int .i64 s.room,s.kys,s.hnd,.int .i64 s.clock,s.drw,.int .i64 s.next,wv,sv,lv]
def ptrs (ps:List Nat):List Value:=ps.map fun g=>.pointer (some ⟨g,0,none⟩)
def EntsAt (w:World) (B:Nat) (ps:List Nat) (W:List Ent):Prop:=ps.length = W.length ∧ ∀ i,i < W.length → B ≤ ps.getD i 0 ∧ Blk w (ps.getD i 0) 231 (entC (W.getD i default))
structure SesV (w:World) (B gS:Nat) (P:Nat → Prop) (s:SS) (wv sv lv:Value) (ps:List Nat):Prop where
 lo:B ≤ gS
 blk:Blk w gS 84 (sesC s wv sv lv)
 ents:EntsAt w B ps s.W
 wrow:w.ownsRow B 229 1 wv s.W.length (ptrs ps)
 srow:w.ownsRow B 49 2 sv s.S.length (s.S.flatMap sentC)
 lrow:w.ownsRow B 47 3 lv s.L.length (s.L.flatMap lineC)
 pS:P gS
 pw:∀ g,wv.ownBlock = some g → P g
 pv:∀ g,sv.ownBlock = some g → P g
 pl:∀ g,lv.ownBlock = some g → P g
def Ses (w:World) (B gS:Nat) (P:Nat → Prop) (s:SS):Prop:=∃ wv sv lv ps,SesV w B gS P s wv sv lv ps
def Kp (P:Nat → Prop) (w w':World):Prop:=∀ k,k < w.heap.size → ¬ P k → w'.heap[k]? = w.heap[k]?
theorem Kp.trans {P:Nat → Prop} {a b c:World} (h:Kp P a b) (hs:a.heap.size ≤ b.heap.size) (k:Kp P b c):Kp P a c:=fun i hi hp=>(k i (Nat.lt_of_lt_of_le hi hs) hp).trans (h i hi hp)
theorem Kp.below {P:Nat → Prop} {w w':World} (h:Below w.heap.size w w'):Kp P w w':=fun i hi _=>h.block i hi
theorem Kp.grown {P:Nat → Prop} {w w':World} {row:Option Nat} (h:w.grownBy w' row) (hr:∀ g,row = some g → P g):Kp P w w':=fun i hi hp=>h.block i hi (fun e=>hp (hr i e.symm))
theorem Kp.setCell {P:Nat → Prop} (w:World) {g:Nat} (hg:P g) (j:Nat) (v:Value):Kp P w (w.setCell ⟨g,j,none⟩ v):=fun i _ hp=>Below.heap_setCell w ⟨g,j,none⟩ v i (fun e=>hp (by rw [e];exact hg))
theorem Kp.weak {P Q:Nat → Prop} {w w':World} (h:Kp P w w') (hq:∀ k,k < w.heap.size → P k → Q k):Kp Q w w':=fun i hi hp=>h i hi (fun e=>hp (hq i hi e))
theorem Kp.cell {P:Nat → Prop} {w w':World} (h:Kp P w w') {a:Addr} {u:Value} (hc:w.cell? a = some u) (hp:¬ P a.block):w'.cell? a = some u:=(World.cell?_of_block (h a.block (World.block_lt_of_cell? w _ hc) hp)).trans hc
theorem RowAt.kp {P:Nat → Prop} {w w':World} {ao:Option Addr} {bs:List UInt8} (h:RowAt w ao bs) (k:Kp P w w') (hn:∀ a,ao = some a → ¬ P a.block):RowAt w' ao bs:=by
 rcases h with h | ⟨b,off,he,hc⟩
 · exact .inl h
 · exact .inr ⟨b,off,he,fun i hi=>k.cell (hc i hi) (hn ⟨b,off,none⟩ he)⟩
theorem own_kp {P:Nat → Prop} {w w':World} {base e size n:Nat} {v:Value} {xs:List Value} (h:w.ownsRow base e size v n xs) (k:Kp P w w') (hn:∀ g,v.ownBlock = some g → ¬ P g):w'.ownsRow base e size v n xs:=by
 refine ⟨h.1,?_⟩
 rcases h.2 with hz | ⟨g,cap,cur,hv,hb,hg,rest⟩
 · exact .inl hz
 · exact .inr ⟨g,cap,cur,hv,hb,(k g (Array.getElem?_eq_some_iff.1 hg).1 (hn g (by rw [hv];rfl))).trans hg,rest⟩
theorem own_atS {w w':World} {P:Nat → Prop} {v v':Value} (hv:∀ g,v.ownBlock = some g → P g) (hP:P w.heap.size) (h:v'.ownBlock = v.ownBlock ∨ v'.ownBlock = some w.heap.size) (_hw:w.heap.size ≤ w'.heap.size):∀ g,v'.ownBlock = some g → P g:=by
 intro g hg
 rcases h with h | h
 · exact hv g (by rw [← h];exact hg)
 · rw [h] at hg;cases hg;exact hP
def sesT:List Nat:=[84,47,49,229]
theorem EntsAt.sm {ts:List Nat} {w w':World} {B:Nat} {ps:List Nat} {W:List Ent} (h:EntsAt w B ps W) (k:Sm ts w w') (ht:231 ∉ ts):EntsAt w' B ps W :=
 ⟨h.1,fun i hi=>⟨(h.2 i hi).1,(h.2 i hi).2.sm k ht⟩⟩
theorem SesV.sm {w w':World} {B gS:Nat} {P:Nat → Prop} {s:SS} {wv sv lv:Value} {ps:List Nat} (h:SesV w B gS P s wv sv lv ps) (k:Sm [] w w'):SesV w' B gS P s wv sv lv ps :=
 ⟨h.lo,h.blk.sm k (by simp),h.ents.sm k (by simp),own_sm h.wrow k (by simp),own_sm h.srow k (by simp),own_sm h.lrow k (by simp),h.pS,h.pw,h.pv,h.pl⟩
theorem SesV.weak {w:World} {B gS:Nat} {P Q:Nat → Prop} {s:SS} {wv sv lv:Value} {ps:List Nat} (h:SesV w B gS P s wv sv lv ps) (hq:∀ k,B ≤ k → k < w.heap.size → P k → Q k):SesV w B gS Q s wv sv lv ps :=
 ⟨h.lo,h.blk,h.ents,h.wrow,h.srow,h.lrow,hq _ h.lo h.blk.lt h.pS,fun g e=>hq g (h.wrow.lt g e).1 (h.wrow.lt g e).2 (h.pw g e),fun g e=>hq g (h.srow.lt g e).1 (h.srow.lt g e).2 (h.pv g e),fun g e=>hq g (h.lrow.lt g e).1 (h.lrow.lt g e).2 (h.pl g e)⟩
theorem Ses.weak {w:World} {B gS:Nat} {P Q:Nat → Prop} {s:SS} (h:Ses w B gS P s) (hq:∀ k,B ≤ k → k < w.heap.size → P k → Q k):Ses w B gS Q s:=by
 obtain ⟨wv,sv,lv,ps,h⟩:=h
 exact ⟨wv,sv,lv,ps,h.weak hq⟩
theorem Ses.below {w w':World} {B gS:Nat} {P:Nat → Prop} {s:SS} (h:Ses w B gS P s) (hb:Below w.heap.size w w'):Ses w' B gS P s:=by
 obtain ⟨wv,sv,lv,ps,h⟩:=h
 exact ⟨wv,sv,lv,ps,h.sm (Sm.below hb)⟩
theorem ownS {w:World} {base e size n:Nat} {v:Value} {xs:List Value} (h:w.ownsRow base e size v n xs):∃ a c,v = .slice a n c:=by
 rcases h.2 with ⟨hv,hn⟩ | ⟨g,cap,cur,hv,-⟩
 · exact ⟨none,0,by rw [hv,hn]⟩
 · exact ⟨_,_,hv⟩
theorem newsB {w:World} {g t:Nat} {cs:List Value} (h:Blk w g t cs):∀ j u,cs[j]? = some u → w.cell? ((⟨g,0,none⟩:Addr).add j) = some u:=by
 intro j u hu
 obtain ⟨hj,he⟩:=List.getElem?_eq_some_iff.1 hu
 rw [Addr.add_mid,Nat.zero_add,h.cell j hj,he]
theorem hidS {p:Prop} (h:p):Hid p:=h
theorem below_newS (w:World) (o:Obj):Below w.heap.size w (w.alloc o):=(Below.refl _ _).alloc (Nat.le_refl _) o
theorem Tryz.infoLn:(Tryz.prog.info? 47).map (fun i=>(i.zero,i.size,i.bytes)) = some (some (.agg #[.int .i64 0,.int .i64 0,.string ⟨#[]⟩]),3,32):=by kernel_rfl
theorem Tryz.infoSn:(Tryz.prog.info? 49).map (fun i=>(i.zero,i.size,i.bytes)) = some (some (.agg #[.int .i64 0,.slice none 0 0]),2,32):=by kernel_rfl
theorem Tryz.infoPe:(Tryz.prog.info? 229).map (fun i=>(i.zero,i.size,i.bytes)) = some (some (.pointer none),1,8):=by kernel_rfl
set_option maxRecDepth 100000 in
set_option maxHeartbeats 1000000 in
theorem note_anyV (s:SS) (B gS:Nat) (P:Nat → Prop) (wv sv lv:Value) (ps:List Nat) (code link:Int) (stan:ByteArray) (w:World) (hB:B ≤ w.heap.size) (hP:∀ k,w.heap.size ≤ k → P k) (h:SesV w B gS P s wv sv lv ps) (hl:s.L.length ≤ 1000000) :
   Calls Tryz.prog 123 #[.pointer (some ⟨gS,0,none⟩),.int .i64 code,.int .i64 link,.string stan] w fun e w' =>
     e = .returned (.tuple #[]) ∧ (∃ lv',SesV w' B gS P { s with L:=s.L ++ [(code,link,stan)] } wv sv lv' ps) ∧ Below B w w' ∧ Sm sesT w w' ∧ Kp P w w':=by
 obtain ⟨i0,hi0,hz0,hz1,hz2⟩:=info_parts Tryz.infoLn
 obtain ⟨n,hn⟩:∃ n,n = s.L.length:=⟨_,rfl⟩
 have row:=h.lrow
 rw [← hn] at row hl
 obtain ⟨W,hW⟩:∃ y,y = w.alloc (Obj.cells #[.int .i64 code,.int .i64 link,.string stan] 47):=⟨_,rfl⟩
 have bW:Below w.heap.size w W:=by rw [hW];exact below_newS _ _
 have kW:Blk W w.heap.size 47 [.int .i64 code,.int .i64 link,.string stan]:=by rw [hW];exact Blk.new _ _ _
 have hc:w.cell? ⟨gS,11,none⟩ = some lv:=h.blk.cell 11 (by simp [sesC])
 have hS:=hidS (h.sm (Sm.below bW))
 have rowW:=hidS (own_sm (ts:=[]) row (Sm.below bW) (by simp))
 have hBW:B ≤ W.heap.size:=Nat.le_trans hB bW.size
 have KW:=hidS kW
 have HW:=hidS hW
 have HB:=hidS bW
 have HN:=hidS hn
 clear hW bW kW h row hn
 go_enter Tryz.func123,Tryz.ntmps123
 go_wp2_with (at_builtin;(rw [← show W = _ from HW];refine wpList_append_own_at _ rfl _ _ 41 rfl B 47 i0 (.agg #[.int .i64 0,.int .i64 0,.string ⟨#[]⟩]) 3 32 Tryz.underlying41 hi0 hz0 hz1 hz2 rfl (by decide) lv n _ rfl rowW.out ⟨w.heap.size,0,none⟩ 1 1 [.int .i64 code,.int .i64 link,.string stan] rfl rfl (newsB KW.out) (by intro u hu;simp at hu;rcases hu with rfl | rfl | rfl <;> rfl) (by unfold maxLen;omega) (by omega) hBW ?_;intro v2 w2 row2 gr2 _ at2;have sm2:=Sm.grown (ts:=[47]) gr2 (own_typed rowW.out);have kS2:=hS.out.blk.sm sm2 (by decide);have cS:w2.cell? ⟨gS,11,none⟩ = some lv:=kS2.cell 11 (by simp [sesC]);obtain ⟨a2,c2,rfl⟩:=ownS row2;have fS:=kS2.free 11))
 go_end0
 have sm3:=Sm.setCell (ts:=[84]) kS2 (by simp) 11 (.slice a2 (n + 1) c2)
 have hO:=hS.out
 refine ⟨rfl,⟨.slice a2 (n + 1) c2,hO.lo,kS2.set 11 _,(hO.ents.sm sm2 (by decide)).sm sm3 (by decide),own_sm (own_sm hO.wrow sm2 (by decide)) sm3 (by decide),own_sm (own_sm hO.srow sm2 (by decide)) sm3 (by decide),?_,hO.pS,hO.pw,hO.pv,own_atS (w:=W) (w':=w2) hO.pl (hP _ HB.out.size) at2 gr2.size⟩,?_,?_,?_⟩
 · have r3:=own_sm row2 sm3 (by decide)
   show World.ownsRow _ B _ 3 (.slice a2 (n + 1) c2) (s.L ++ [(code,link,stan)]).length ((s.L ++ [(code,link,stan)]).flatMap lineC)
   rw [List.length_append,← HN.out,List.flatMap_append]
   exact r3
 · exact ((HB.out.mono hB).grown gr2 hBW (fun k hk=>(rowW.out.lt k hk).1)).setCell hO.lo _
 · exact ((Sm.below HB.out).trans (sm2.mono (by decide))).trans (sm3.mono (by decide))
 · exact ((Kp.below HB.out).trans HB.out.size (Kp.grown gr2 hO.pl)).trans (Nat.le_trans HB.out.size gr2.size) (Kp.setCell w2 hO.pS 11 _)
theorem note_any (s:SS) (B gS:Nat) (P:Nat → Prop) (code link:Int) (stan:ByteArray) (w:World) (hB:B ≤ w.heap.size) (hP:∀ k,w.heap.size ≤ k → P k) (h:Ses w B gS P s) (hl:s.L.length ≤ 1000000) :
   Calls Tryz.prog 123 #[.pointer (some ⟨gS,0,none⟩),.int .i64 code,.int .i64 link,.string stan] w fun e w' =>
     e = .returned (.tuple #[]) ∧ Ses w' B gS P { s with L:=s.L ++ [(code,link,stan)] } ∧ Below B w w' ∧ Sm sesT w w' ∧ Kp P w w':=by
 obtain ⟨wv,sv,lv,ps,h⟩:=h
 refine (note_anyV s B gS P wv sv lv ps code link stan w hB hP h hl).mono ?_
 rintro e w' ⟨h1,⟨lv',h2⟩,h3⟩
 exact ⟨h1,⟨wv,sv,lv',ps,h2⟩,h3⟩
end Go.Proofs.YtbkokcjolanpeaaGreatDoor
