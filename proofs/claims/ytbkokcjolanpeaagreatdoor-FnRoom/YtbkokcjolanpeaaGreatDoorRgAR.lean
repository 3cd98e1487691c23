import Derived.Test.YtbkokcjolanpeaaGreatDoorRgAQ
namespace Go.Proofs.YtbkokcjolanpeaaGreatDoor
open Go.RowKit
def EltAt (sz:Nat) (w:World) (ao:Option Addr) (Q:List (List Value)):Prop:=∀ i,i < Q.length → ∃ g o,ao = some ⟨g,o,none⟩ ∧ (Q.getD i []).length = sz ∧ ∀ j,j < sz → w.cell? ⟨g,o + i * sz + j,none⟩ = some ((Q.getD i []).getD j undef)
theorem list2 {l:List Value} (h:l.length = 2):∃ v0 v1,l = [v0,v1]:=by
 match l,h with
 | [a,b],_=>exact ⟨a,b,rfl⟩
theorem list3 {l:List Value} (h:l.length = 3):∃ v0 v1 v2,l = [v0,v1,v2]:=by
 match l,h with
 | [a,b,c],_=>exact ⟨a,b,c,rfl⟩
theorem list4 {l:List Value} (h:l.length = 4):∃ v0 v1 v2 v3,l = [v0,v1,v2,v3]:=by
 match l,h with
 | [a,b,c,d],_=>exact ⟨a,b,c,d,rfl⟩
set_option maxRecDepth 100000 in
set_option maxHeartbeats 1000000 in
theorem idxL (Q:List (List Value)) (hQ:Q.length ≤ 1000) (a:Option Addr) (cap:Nat) (w:World) (hP:EltAt 3 w a Q) (hcl:∀ i,i < Q.length → ∀ y,Below w.heap.size w y → Calls Tryz.prog 60 #[.agg (Q.getD i []).toArray] y fun e w'=>e = .returned (.bool false) ∧ Below y.heap.size y w') :
   Calls Tryz.prog 113 #[.slice a Q.length cap,.func (Fn.func 60) #[] #[]] w fun e w'=>e = .returned (.int .i64 (-1)) ∧ Below w.heap.size w w':=by
 obtain ⟨n,hn⟩:∃ n,n = Q.length:=⟨_,rfl⟩
 have HN:=hideT hn
 rw [← hn] at hQ ⊢
 have HP:=hideT hP
 have HCL:=hideT hcl
 clear hcl hP hn
 go_enter Tryz.func113,Tryz.ntmps113
 go_wp2_with fail
 go_loopw [8] (fun i wr=>∃ k:Nat,k ≤ n ∧ i = .int .i64 (k:Int) ∧ Below w.heap.size w wr) (fun i _=>n - (intOf i).toNat)
 case atStart=>exact ⟨0,Nat.zero_le _,rfl,Below.refl _ _⟩
 case round =>
   obtain ⟨k,hk,rfl,hbel⟩:=hrel
   by_cases hlt:k < n
   · have hltI:(k:Int) < (n:Int):=by omega
     have hkQ:k < Q.length:=by rw [← HN.out];exact hlt
     obtain ⟨g,o,rfl,hlen,hc⟩:=HP.out k hkQ
     obtain ⟨v0,v1,v2,hq⟩:∃ v0 v1 v2,Q.getD k [] = [v0,v1,v2]:=list3 hlen
     have d0:wr.cell? ⟨g,o + k * 3,none⟩ = some v0:=by
       have h:=(hbel.cell (p:=⟨g,o + k * 3 + 0,none⟩) (World.block_lt_of_cell? w _ (hc 0 (by omega)))).trans (hc 0 (by omega))
       rw [hq] at h
       exact h
     have d1:wr.cell? ⟨g,o + k * 3 + 1,none⟩ = some v1:=by
       have h:=(hbel.cell (p:=⟨g,o + k * 3 + 1,none⟩) (World.block_lt_of_cell? w _ (hc 1 (by omega)))).trans (hc 1 (by omega))
       rw [hq] at h
       exact h
     have d2:wr.cell? ⟨g,o + k * 3 + 2,none⟩ = some v2:=by
       have h:=(hbel.cell (p:=⟨g,o + k * 3 + 2,none⟩) (World.block_lt_of_cell? w _ (hc 2 (by omega)))).trans (hc 2 (by omega))
       rw [hq] at h
       exact h
     have HC:=hideT (HCL.out k hkQ wr hbel)
     rw [hq] at HC
     clear hc hlen hq
     go_wp2_with (go_at_call 60;refine HC.out.mono ?_;rintro e w2 ⟨rfl,b2⟩;have hb2:=hbel.trans (b2.mono hbel.size);clear b2)
     go_roundw
     case rel=>exact ⟨k + 1,by omega,by go_num,hb2⟩
     case measure=>simp [intOf];omega
   · have hltI:¬ (k:Int) < (n:Int):=by omega
     go_wp2_with fail
     go_ret
     exact ⟨rfl,hbel⟩
set_option maxHeartbeats 1000000 in
theorem conL (Q:List (List Value)) (hQ:Q.length ≤ 1000) (a:Option Addr) (cap:Nat) (w:World) (hP:EltAt 3 w a Q) (hcl:∀ i,i < Q.length → ∀ y,Below w.heap.size w y → Calls Tryz.prog 60 #[.agg (Q.getD i []).toArray] y fun e w'=>e = .returned (.bool false) ∧ Below y.heap.size y w') :
   Calls Tryz.prog 59 #[.slice a Q.length cap,.func (Fn.func 60) #[] #[]] w fun e w'=>e = .returned (.bool false) ∧ Below w.heap.size w w':=by
 have HI:=hideT (idxL Q hQ a cap w hP hcl)
 obtain ⟨n,hn⟩:∃ n,n = Q.length:=⟨_,rfl⟩
 rw [← hn] at HI ⊢
 clear hn hcl hP hQ
 go_enter Tryz.func59,Tryz.ntmps59
 go_wp2_with fail
 refine HI.out.mono ?_
 rintro e w2 ⟨rfl,b2⟩
 go_wp2_with fail
 go_ret
 exact ⟨rfl,b2⟩
set_option maxRecDepth 100000 in
set_option maxHeartbeats 1000000 in
theorem idxR (Q:List (List Value)) (hQ:Q.length ≤ 1000) (a:Option Addr) (cap:Nat) (gC:Nat) (w:World) (hP:EltAt 2 w a Q) (hcl:∀ i,i < Q.length → ∀ y,Below w.heap.size w y → Calls Tryz.prog 63 #[.agg (Q.getD i []).toArray,.pointer (some ⟨gC,0,none⟩)] y fun e w'=>e = .returned (.bool false) ∧ Below y.heap.size y w') :
   Calls Tryz.prog 114 #[.slice a Q.length cap,.func (Fn.func 63) #[] #[.pointer (some ⟨gC,0,none⟩)]] w fun e w'=>e = .returned (.int .i64 (-1)) ∧ Below w.heap.size w w':=by
 obtain ⟨n,hn⟩:∃ n,n = Q.length:=⟨_,rfl⟩
 have HN:=hideT hn
 rw [← hn] at hQ ⊢
 have HP:=hideT hP
 have HCL:=hideT hcl
 clear hcl hP hn
 go_enter Tryz.func114,Tryz.ntmps114
 go_wp2_with fail
 go_loopw [8] (fun i wr=>∃ k:Nat,k ≤ n ∧ i = .int .i64 (k:Int) ∧ Below w.heap.size w wr) (fun i _=>n - (intOf i).toNat)
 case atStart=>exact ⟨0,Nat.zero_le _,rfl,Below.refl _ _⟩
 case round =>
   obtain ⟨k,hk,rfl,hbel⟩:=hrel
   by_cases hlt:k < n
   · have hltI:(k:Int) < (n:Int):=by omega
     have hkQ:k < Q.length:=by rw [← HN.out];exact hlt
     obtain ⟨g,o,rfl,hlen,hc⟩:=HP.out k hkQ
     obtain ⟨v0,v1,hq⟩:∃ v0 v1,Q.getD k [] = [v0,v1]:=list2 hlen
     have d0:wr.cell? ⟨g,o + k * 2,none⟩ = some v0:=by
       have h:=(hbel.cell (p:=⟨g,o + k * 2 + 0,none⟩) (World.block_lt_of_cell? w _ (hc 0 (by omega)))).trans (hc 0 (by omega))
       rw [hq] at h
       exact h
     have d1:wr.cell? ⟨g,o + k * 2 + 1,none⟩ = some v1:=by
       have h:=(hbel.cell (p:=⟨g,o + k * 2 + 1,none⟩) (World.block_lt_of_cell? w _ (hc 1 (by omega)))).trans (hc 1 (by omega))
       rw [hq] at h
       exact h
     have HC:=hideT (HCL.out k hkQ wr hbel)
     rw [hq] at HC
     clear hc hlen hq
     go_wp2_with (go_at_call 63;refine HC.out.mono ?_;rintro e w2 ⟨rfl,b2⟩;have hb2:=hbel.trans (b2.mono hbel.size);clear b2)
     go_roundw
     case rel=>exact ⟨k + 1,by omega,by go_num,hb2⟩
     case measure=>simp [intOf];omega
   · have hltI:¬ (k:Int) < (n:Int):=by omega
     go_wp2_with fail
     go_ret
     exact ⟨rfl,hbel⟩
set_option maxHeartbeats 1000000 in
theorem conR (Q:List (List Value)) (hQ:Q.length ≤ 1000) (a:Option Addr) (cap:Nat) (gC:Nat) (w:World) (hP:EltAt 2 w a Q) (hcl:∀ i,i < Q.length → ∀ y,Below w.heap.size w y → Calls Tryz.prog 63 #[.agg (Q.getD i []).toArray,.pointer (some ⟨gC,0,none⟩)] y fun e w'=>e = .returned (.bool false) ∧ Below y.heap.size y w') :
   Calls Tryz.prog 62 #[.slice a Q.length cap,.func (Fn.func 63) #[] #[.pointer (some ⟨gC,0,none⟩)]] w fun e w'=>e = .returned (.bool false) ∧ Below w.heap.size w w':=by
 have HI:=hideT (idxR Q hQ a cap gC w hP hcl)
 obtain ⟨n,hn⟩:∃ n,n = Q.length:=⟨_,rfl⟩
 rw [← hn] at HI ⊢
 clear hn hcl hP hQ
 go_enter Tryz.func62,Tryz.ntmps62
 go_wp2_with fail
 refine HI.out.mono ?_
 rintro e w2 ⟨rfl,b2⟩
 go_wp2_with fail
 go_ret
 exact ⟨rfl,b2⟩
set_option maxRecDepth 100000 in
set_option maxHeartbeats 1000000 in
theorem idxE (Q:List (List Value)) (hQ:Q.length ≤ 1000) (a:Option Addr) (cap:Nat) (gC:Nat) (w:World) (hP:EltAt 4 w a Q) (hcl:∀ i,i < Q.length → ∀ y,Below w.heap.size w y → Calls Tryz.prog 67 #[.agg (Q.getD i []).toArray,.pointer (some ⟨gC,0,none⟩)] y fun e w'=>e = .returned (.bool false) ∧ Below y.heap.size y w') :
   Calls Tryz.prog 115 #[.slice a Q.length cap,.func (Fn.func 67) #[] #[.pointer (some ⟨gC,0,none⟩)]] w fun e w'=>e = .returned (.int .i64 (-1)) ∧ Below w.heap.size w w':=by
 obtain ⟨n,hn⟩:∃ n,n = Q.length:=⟨_,rfl⟩
 have HN:=hideT hn
 rw [← hn] at hQ ⊢
 have HP:=hideT hP
 have HCL:=hideT hcl
 clear hcl hP hn
 go_enter Tryz.func115,Tryz.ntmps115
 go_wp2_with fail
 go_loopw [8] (fun i wr=>∃ k:Nat,k ≤ n ∧ i = .int .i64 (k:Int) ∧ Below w.heap.size w wr) (fun i _=>n - (intOf i).toNat)
 case atStart=>exact ⟨0,Nat.zero_le _,rfl,Below.refl _ _⟩
 case round =>
   obtain ⟨k,hk,rfl,hbel⟩:=hrel
   by_cases hlt:k < n
   · have hltI:(k:Int) < (n:Int):=by omega
     have hkQ:k < Q.length:=by rw [← HN.out];exact hlt
     obtain ⟨g,o,rfl,hlen,hc⟩:=HP.out k hkQ
     obtain ⟨v0,v1,v2,v3,hq⟩:∃ v0 v1 v2 v3,Q.getD k [] = [v0,v1,v2,v3]:=list4 hlen
     have d0:wr.cell? ⟨g,o + k * 4,none⟩ = some v0:=by
       have h:=(hbel.cell (p:=⟨g,o + k * 4 + 0,none⟩) (World.block_lt_of_cell? w _ (hc 0 (by omega)))).trans (hc 0 (by omega))
       rw [hq] at h
       exact h
     have d1:wr.cell? ⟨g,o + k * 4 + 1,none⟩ = some v1:=by
       have h:=(hbel.cell (p:=⟨g,o + k * 4 + 1,none⟩) (World.block_lt_of_cell? w _ (hc 1 (by omega)))).trans (hc 1 (by omega))
       rw [hq] at h
       exact h
     have d2:wr.cell? ⟨g,o + k * 4 + 2,none⟩ = some v2:=by
       have h:=(hbel.cell (p:=⟨g,o + k * 4 + 2,none⟩) (World.block_lt_of_cell? w _ (hc 2 (by omega)))).trans (hc 2 (by omega))
       rw [hq] at h
       exact h
     have d3:wr.cell? ⟨g,o + k * 4 + 3,none⟩ = some v3:=by
       have h:=(hbel.cell (p:=⟨g,o + k * 4 + 3,none⟩) (World.block_lt_of_cell? w _ (hc 3 (by omega)))).trans (hc 3 (by omega))
       rw [hq] at h
       exact h
     have HC:=hideT (HCL.out k hkQ wr hbel)
     rw [hq] at HC
     clear hc hlen hq
     go_wp2_with (go_at_call 67;refine HC.out.mono ?_;rintro e w2 ⟨rfl,b2⟩;have hb2:=hbel.trans (b2.mono hbel.size);clear b2)
     go_roundw
     case rel=>exact ⟨k + 1,by omega,by go_num,hb2⟩
     case measure=>simp [intOf];omega
   · have hltI:¬ (k:Int) < (n:Int):=by omega
     go_wp2_with fail
     go_ret
     exact ⟨rfl,hbel⟩
set_option maxHeartbeats 1000000 in
theorem conE (Q:List (List Value)) (hQ:Q.length ≤ 1000) (a:Option Addr) (cap:Nat) (gC:Nat) (w:World) (hP:EltAt 4 w a Q) (hcl:∀ i,i < Q.length → ∀ y,Below w.heap.size w y → Calls Tryz.prog 67 #[.agg (Q.getD i []).toArray,.pointer (some ⟨gC,0,none⟩)] y fun e w'=>e = .returned (.bool false) ∧ Below y.heap.size y w') :
   Calls Tryz.prog 66 #[.slice a Q.length cap,.func (Fn.func 67) #[] #[.pointer (some ⟨gC,0,none⟩)]] w fun e w'=>e = .returned (.bool false) ∧ Below w.heap.size w w':=by
 have HI:=hideT (idxE Q hQ a cap gC w hP hcl)
 obtain ⟨n,hn⟩:∃ n,n = Q.length:=⟨_,rfl⟩
 rw [← hn] at HI ⊢
 clear hn hcl hP hQ
 go_enter Tryz.func66,Tryz.ntmps66
 go_wp2_with fail
 refine HI.out.mono ?_
 rintro e w2 ⟨rfl,b2⟩
 go_wp2_with fail
 go_ret
 exact ⟨rfl,b2⟩
theorem isFormatS_ok (f:Int) (h:f = 0 ∨ f = 3) (w:World):Calls Tryz.prog 61 #[.int .i64 f] w fun e w'=>e = .returned (.bool true) ∧ w' = w:=by
 rcases h with rfl | rfl
 · go_enter Tryz.func61,Tryz.ntmps61
   go_wp2_with fail
   go_ret
   exact ⟨rfl,rfl⟩
 · go_enter Tryz.func61,Tryz.ntmps61
   go_wp2_with fail
   go_ret
   exact ⟨rfl,rfl⟩
theorem isLinkS_ok (l n:Int) (h0:0 ≤ l) (h1:l < n) (w:World):Calls Tryz.prog 65 #[.int .i64 l,.int .i64 n] w fun e w'=>e = .returned (.bool true) ∧ w' = w:=by
 go_enter Tryz.func65,Tryz.ntmps65
 go_wp2_with fail
 go_ret
 exact ⟨rfl,rfl⟩
set_option maxHeartbeats 1000000 in
theorem isPrefixS_ok (t:ByteArray) (h0:0 < t.size) (h1:t.size ≤ 19) (hd:digs t = true) (w:World):Calls Tryz.prog 64 #[.string t] w fun e w'=>e = .returned (.bool true) ∧ Below w.heap.size w w':=by
 have HA:=hideT (allDigits_any t w)
 rw [hd] at HA
 have q0:(0:Int) < (t.size:Int):=by omega
 have q1:(t.size:Int) ≤ 19:=by omega
 clear hd
 go_enter Tryz.func64,Tryz.ntmps64
 go_wp2_with fail
 refine HA.out.mono ?_
 rintro e w2 ⟨rfl,b2⟩
 go_wp2_with fail
 go_ret
 exact ⟨rfl,b2⟩
set_option maxHeartbeats 1000000 in
theorem cfg1_ok (v0 v1:Value) (f:Int) (h:f = 0 ∨ f = 3) (w:World):Calls Tryz.prog 60 #[.agg #[v0,v1,.int .i64 f]] w fun e w'=>e = .returned (.bool false) ∧ Below w.heap.size w w':=by
 obtain ⟨W,hW⟩:∃ y,y = w.alloc (Obj.cells #[v0,v1,.int .i64 f] 35):=⟨_,rfl⟩
 have bW:Below w.heap.size w W:=by rw [hW];exact below_newS _ _
 obtain ⟨gL,hgL⟩:∃ n,n = w.heap.size:=⟨_,rfl⟩
 have kL:Blk W gL 35 [v0,v1,.int .i64 f]:=by rw [hW,hgL];exact Blk.new _ _ _
 have c2:=kL.cell 2 (by simp)
 have HF:=hideT (isFormatS_ok f h W)
 have HW:=hideT hW
 have HGL:=hideT hgL
 clear hW hgL kL h
 go_enter Tryz.func60,Tryz.ntmps60
 go_upto_region 1 with fail
 rw [← show W = _ from HW,← show gL = _ from HGL]
 go_wp2_with fail
 refine HF.out.mono ?_
 rintro e w2 ⟨rfl,hw⟩
 have hw2:=hw.symm
 subst hw2
 clear hw
 go_wp2_with fail
 go_ret
 exact ⟨rfl,bW⟩
set_option maxHeartbeats 1000000 in
theorem cfg2_ok (t:ByteArray) (h0:0 < t.size) (h1:t.size ≤ 19) (hd:digs t = true) (l:Int) (n:Nat) (hl0:0 ≤ l) (hl1:l < (n:Int)) (gC:Nat) (al:Option Addr) (cl:Nat) (w:World) (hc:w.cell? ⟨gC,1,none⟩ = some (.slice al n cl)) :
   Calls Tryz.prog 63 #[.agg #[.string t,.int .i64 l],.pointer (some ⟨gC,0,none⟩)] w fun e w'=>e = .returned (.bool false) ∧ Below w.heap.size w w':=by
 obtain ⟨W,hW⟩:∃ y,y = w.alloc (Obj.cells #[.string t,.int .i64 l] 105):=⟨_,rfl⟩
 have bW:Below w.heap.size w W:=by rw [hW];exact below_newS _ _
 obtain ⟨gR,hgR⟩:∃ n,n = w.heap.size:=⟨_,rfl⟩
 have kR:Blk W gR 105 [.string t,.int .i64 l]:=by rw [hW,hgR];exact Blk.new _ _ _
 have c0:=kR.cell 0 (by simp)
 have hlc:=World.block_lt_of_cell? w _ hc
 have HP:=hideT (isPrefixS_ok t h0 h1 hd W)
 have HL:=hideT (fun (y:World)=>isLinkS_ok l (n:Int) hl0 hl1 y)
 have HC:=hideT hc
 have HW:=hideT hW
 have HGR:=hideT hgR
 clear hW hgR hc hd h0 h1
 go_enter Tryz.func63,Tryz.ntmps63
 go_upto_region 1 with fail
 rw [← show W = _ from HW,← show gR = _ from HGR]
 go_wp2_with fail
 refine HP.out.mono ?_
 rintro e w2 ⟨rfl,b2⟩
 have bw2:=bW.trans (b2.mono bW.size)
 have c1:=(kR.below b2 kR.lt).cell 1 (by simp)
 have cc:=(bw2.cell (p:=⟨gC,1,none⟩) hlc).trans HC.out
 go_wp2_with fail
 refine (HL.out _).mono ?_
 rintro e w3 ⟨rfl,hw⟩
 have hw2:=hw.symm
 subst hw2
 clear hw
 go_wp2_with fail
 go_ret
 exact ⟨rfl,bw2⟩
def EvOk (n:Nat) (q:List Value):Prop:=∃ (kd l N:Int) (ad:Option Addr) (nd cd:Nat),q = [.int .i64 kd,.int .i64 l,.int .i64 N,.slice ad nd cd] ∧ nd ≤ 4096 ∧ ((kd = 1 ∧ 0 ≤ l ∧ l < (n:Int)) ∨ (kd = 2 ∧ 0 ≤ N ∧ N ≤ 1000))
set_option maxHeartbeats 1000000 in
theorem isEventS_ok (n:Nat) (kd l N:Int) (ad:Option Addr) (nd cd:Nat) (hnd:nd ≤ 4096) (h:(kd = 1 ∧ 0 ≤ l ∧ l < (n:Int)) ∨ (kd = 2 ∧ 0 ≤ N ∧ N ≤ 1000)) (w:World):Calls Tryz.prog 68 #[.agg #[.int .i64 kd,.int .i64 l,.int .i64 N,.slice ad nd cd],.int .i64 (n:Int)] w fun e w'=>e = .returned (.bool true) ∧ Below w.heap.size w w':=by
 obtain ⟨W,hW⟩:∃ y,y = w.alloc (Obj.cells #[.int .i64 kd,.int .i64 l,.int .i64 N,.slice ad nd cd] 38):=⟨_,rfl⟩
 have bW:Below w.heap.size w W:=by rw [hW];exact below_newS _ _
 obtain ⟨gE,hgE⟩:∃ n,n = w.heap.size:=⟨_,rfl⟩
 have kE:Blk W gE 38 [.int .i64 kd,.int .i64 l,.int .i64 N,.slice ad nd cd]:=by rw [hW,hgE];exact Blk.new _ _ _
 have c0:=kE.cell 0 (by simp)
 have c1:=kE.cell 1 (by simp)
 have c2:=kE.cell 2 (by simp)
 have c3:=kE.cell 3 (by simp)
 have hndI:¬ (4096:Int) < (nd:Int):=by omega
 have HW:=hideT hW
 have HGE:=hideT hgE
 clear hW hgE kE
 rcases h with ⟨rfl,q1,q2⟩ | ⟨rfl,q1,q2⟩
 · have HL:=hideT (isLinkS_ok l (n:Int) q1 q2 W)
   go_enter Tryz.func68,Tryz.ntmps68
   go_upto_region 1 with fail
   rw [← show W = _ from HW,← show gE = _ from HGE]
   go_wp2_with fail
   refine HL.out.mono ?_
   rintro e w3 ⟨rfl,hw⟩
   have hw2:=hw.symm
   subst hw2
   clear hw
   go_wp2_with fail
   go_ret
   exact ⟨rfl,bW⟩
 · go_enter Tryz.func68,Tryz.ntmps68
   go_upto_region 1 with fail
   rw [← show W = _ from HW,← show gE = _ from HGE]
   go_wp2_with fail
   go_ret
   exact ⟨rfl,bW⟩
set_option maxHeartbeats 1000000 in
theorem ev1_ok (n:Nat) (q:List Value) (h:EvOk n q) (gL:Nat) (w:World) (hc:w.cell? ⟨gL,0,none⟩ = some (.int .i64 (n:Int))) :
   Calls Tryz.prog 67 #[.agg q.toArray,.pointer (some ⟨gL,0,none⟩)] w fun e w'=>e = .returned (.bool false) ∧ Below w.heap.size w w':=by
 obtain ⟨kd,l,N,ad,nd,cd,rfl,hnd,hh⟩:=h
 obtain ⟨W,hW⟩:∃ y,y = w.alloc (Obj.cells #[.int .i64 kd,.int .i64 l,.int .i64 N,.slice ad nd cd] 38):=⟨_,rfl⟩
 have bW:Below w.heap.size w W:=by rw [hW];exact below_newS _ _
 obtain ⟨gE,hgE⟩:∃ n,n = w.heap.size:=⟨_,rfl⟩
 have kE:Blk W gE 38 [.int .i64 kd,.int .i64 l,.int .i64 N,.slice ad nd cd]:=by rw [hW,hgE];exact Blk.new _ _ _
 have cW:=(bW.cell (p:=⟨gL,0,none⟩) (World.block_lt_of_cell? w _ hc)).trans hc
 have HE:=hideT (isEventS_ok n kd l N ad nd cd hnd hh W)
 have HW:=hideT hW
 have HGE:=hideT hgE
 clear hW hgE hc hh
 go_enter Tryz.func67,Tryz.ntmps67
 go_upto_region 1 with fail
 rw [← show W = _ from HW,← show gE = _ from HGE]
 go_wp2_with (refine load_blk rfl 38 _ rfl gE rfl kE Tryz.underlying38 rfl (by kernel_rfl) ?_)
 refine HE.out.mono ?_
 rintro e w2 ⟨rfl,b2⟩
 go_wp2_with fail
 go_ret
 exact ⟨rfl,bW.trans (b2.mono bW.size)⟩
set_option maxRecDepth 100000 in
set_option maxHeartbeats 1000000 in
theorem areEvents_ok (n:Nat) (Q:List (List Value)) (hQ:Q.length ≤ 60) (hok:∀ i,i < Q.length → EvOk n (Q.getD i [])) (a:Option Addr) (cap:Nat) (w:World) (hP:EltAt 4 w a Q) :
   Calls Tryz.prog 25 #[.slice a Q.length cap,.int .i64 (n:Int)] w fun e w'=>e = .returned (.bool true) ∧ Below w.heap.size w w':=by
 obtain ⟨W,hW⟩:∃ y,y = w.alloc (Obj.cells #[.int .i64 (n:Int)] 3):=⟨_,rfl⟩
 have bW:Below w.heap.size w W:=by rw [hW];exact below_newS _ _
 obtain ⟨gL,hgL⟩:∃ n,n = w.heap.size:=⟨_,rfl⟩
 have kL:Blk W gL 3 [.int .i64 (n:Int)]:=by rw [hW,hgL];exact Blk.new _ _ _
 have hPW:EltAt 4 W a Q:=fun i hi=>by
   obtain ⟨g,o,e,h1,h2⟩:=hP i hi
   exact ⟨g,o,e,h1,fun j hj=>(bW.cell (p:=⟨g,o + i * 4 + j,none⟩) (World.block_lt_of_cell? w _ (h2 j hj))).trans (h2 j hj)⟩
 have HC:=hideT (conE Q (by omega) a cap gL W hPW (fun i hi y hy=>ev1_ok n _ (hok i hi) gL y ((kL.below hy kL.lt).cell 0 (by simp))))
 obtain ⟨m,hm⟩:∃ n,n = Q.length:=⟨_,rfl⟩
 rw [← hm] at HC hQ ⊢
 have hmI:(m:Int) ≤ 60:=by omega
 have HW:=hideT hW
 have HGL:=hideT hgL
 clear hW hgL hm hP hPW hok
 go_enter Tryz.func25,Tryz.ntmps25
 go_upto_region 1 with fail
 rw [← show W = _ from HW,← show gL = _ from HGL]
 go_wp2_with fail
 refine HC.out.mono ?_
 rintro e w2 ⟨rfl,b2⟩
 go_wp2_with fail
 go_ret
 exact ⟨rfl,bW.trans (b2.mono bW.size)⟩
set_option maxRecDepth 100000 in
set_option maxHeartbeats 1000000 in
theorem isConfig_ok (QL QR:List (List Value)) (hQL:QL.length ≤ 8) (hQR:QR.length ≤ 20) (room:Int) (hr0:0 ≤ room) (hr1:room ≤ 20) (hl:∀ i,i < QL.length → ∃ v0 v1 f,QL.getD i [] = [v0,v1,.int .i64 f] ∧ (f = 0 ∨ f = 3)) (hr:∀ i,i < QR.length → ∃ t l,QR.getD i [] = [.string t,.int .i64 l] ∧ 0 < t.size ∧ t.size ≤ 19 ∧ digs t = true ∧ 0 ≤ l ∧ l < (QL.length:Int))
   (am al ar:Option Addr) (cm cl cr:Nat) (w:World) (hPL:EltAt 3 w al QL) (hPR:EltAt 2 w ar QR) :
   Calls Tryz.prog 24 #[.agg #[.slice am 16 cm,.slice al QL.length cl,.slice ar QR.length cr,.int .i64 room]] w fun e w'=>e = .returned (.bool true) ∧ Below w.heap.size w w':=by
 obtain ⟨W,hW⟩:∃ y,y = w.alloc (Obj.cells #[.slice am 16 cm,.slice al QL.length cl,.slice ar QR.length cr,.int .i64 room] 26):=⟨_,rfl⟩
 have bW:Below w.heap.size w W:=by rw [hW];exact below_newS _ _
 obtain ⟨gC,hgC⟩:∃ n,n = w.heap.size:=⟨_,rfl⟩
 have kC:Blk W gC 26 [.slice am 16 cm,.slice al QL.length cl,.slice ar QR.length cr,.int .i64 room]:=by rw [hW,hgC];exact Blk.new _ _ _
 have hE:∀ (sz:Nat) (ao:Option Addr) (Q:List (List Value)) (y:World),EltAt sz w ao Q → Below w.heap.size w y → EltAt sz y ao Q:=fun sz ao Q y hP hy i hi=>by
   obtain ⟨g,o,e,h1,h2⟩:=hP i hi
   exact ⟨g,o,e,h1,fun j hj=>(hy.cell (p:=⟨g,o + i * sz + j,none⟩) (World.block_lt_of_cell? w _ (h2 j hj))).trans (h2 j hj)⟩
 have HL:=hideT (conL QL (by omega) al cl W (hE _ _ _ W hPL bW) (fun i hi y hy=>by
   obtain ⟨v0,v1,f,e,h3⟩:=hl i hi
   rw [e]
   exact cfg1_ok v0 v1 f h3 y))
 have HR:=hideT (fun (z:World) (hz:Below W.heap.size W z)=>conR QR (by omega) ar cr gC z (hE _ _ _ z hPR (bW.trans (hz.mono bW.size))) (fun i hi y hy=>by
   obtain ⟨t,l,e,t0,t1,t2,l0,l1⟩:=hr i hi
   rw [e]
   exact cfg2_ok t t0 t1 t2 l QL.length l0 l1 gC al cl y ((kC.below (hz.trans (hy.mono hz.size)) kC.lt).cell 1 (by simp))))
 obtain ⟨nl,hnl⟩:∃ n,n = QL.length:=⟨_,rfl⟩
 obtain ⟨nr,hnr⟩:∃ n,n = QR.length:=⟨_,rfl⟩
 rw [← hnl] at HL hQL hW
 rw [← hnl,← hnr] at kC
 rw [← hnr] at HR hQR hW
 rw [← hnl,← hnr]
 have c0:=kC.cell 0 (by simp)
 have c1:=kC.cell 1 (by simp)
 have c2:=kC.cell 2 (by simp)
 have c3:=kC.cell 3 (by simp)
 have q1:¬ (8:Int) < (nl:Int):=by omega
 have q2:¬ (20:Int) < (nr:Int):=by omega
 have q3:¬ room < 0:=by omega
 have q4:¬ (20:Int) < room:=by omega
 have HKC:=hideT kC
 have HW:=hideT hW
 have HGC:=hideT hgC
 clear hW hgC hnl hnr hl hr hPL hPR hE kC
 go_enter Tryz.func24,Tryz.ntmps24
 go_upto_region 1 with fail
 rw [← show W = _ from HW,← show gC = _ from HGC]
 go_wp2_with fail
 refine HL.out.mono ?_
 rintro e w2 ⟨rfl,b2⟩
 have d2:=(HKC.out.below b2 HKC.out.lt).cell 2 (by simp)
 go_wp2_with fail
 refine (HR.out w2 b2).mono ?_
 rintro e w3 ⟨rfl,b3⟩
 go_wp2_with fail
 go_ret
 exact ⟨rfl,bW.trans ((b2.trans (b3.mono b2.size)).mono bW.size)⟩
inductive Ev where
 | msg:Ev
 | tick:Int → Ev
inductive RunR (l tl:Nat) (stan:ByteArray) (s:SS):List Ev → SS → Prop where
 | nil:RunR l tl stan s [] s
 | msg {es:List Ev} {t:SS} {nx:Nat} (x:Value):RunR l tl stan s es t → t.next = (nx:Int) → RunR l tl stan s (es ++ [.msg]) (askS t (l:Int) tl nx stan x)
 | tick {es:List Ev} {t:SS} (n:Int):RunR l tl stan s es t → RunR l tl stan s (es ++ [.tick n]) { t with clock:=t.clock + n,W:=tkW (t.clock + n) t.W,L:=t.L ++ tkL (t.clock + n) t.W }
structure Bnd (k:Nat) (t:SS):Prop where
 next:∃ nx:Nat,t.next = (nx:Int) ∧ nx ≤ k + 1
 c0:0 ≤ t.clock
 c1:t.clock ≤ 1000 * (k:Int)
 W:t.W.length ≤ k
 S:t.S.length ≤ k
 L:t.L.length ≤ k * (k + 1)
theorem askS_cfg (t:SS) (link:Int) (tl nx:Nat) (stan:ByteArray) (x:Value):(askS t link tl nx stan x).mst = t.mst ∧ (askS t link tl nx stan x).lnk = t.lnk ∧ (askS t link tl nx stan x).rts = t.rts ∧ (askS t link tl nx stan x).room = t.room ∧ (askS t link tl nx stan x).kys = t.kys ∧ (askS t link tl nx stan x).hnd = t.hnd:=by
 unfold askS
 split <;> exact ⟨rfl,rfl,rfl,rfl,rfl,rfl⟩
theorem Bnd.ask {k:Nat} {t:SS} (h:Bnd k t) (link:Int) (tl nx:Nat) (hnx:t.next = (nx:Int)) (stan:ByteArray) (x:Value):Bnd (k + 1) (askS t link tl nx stan x):=by
 obtain ⟨⟨nx',e,hn⟩,c0,c1,hW,hS,hL⟩:=h
 have hnn:nx' = nx:=by omega
 subst hnn
 have hk:(k + 1) * (k + 1 + 1) = k * (k + 1) + 2 * (k + 1):=by rw [Nat.add_mul,Nat.mul_add];omega
 unfold askS
 split
 · refine ⟨⟨nx',e,by omega⟩,c0,by show t.clock ≤ _;omega,by show t.W.length ≤ _;omega,?_,?_⟩
   · show (t.S ++ _).length ≤ _;rw [List.length_append];simp;omega
   · show (t.L ++ _).length ≤ _;rw [List.length_append,hk];simp;omega
 · refine ⟨⟨nx' + 1,rfl,by omega⟩,c0,by show t.clock ≤ _;omega,?_,?_,?_⟩
   · show (t.W ++ _).length ≤ _;rw [List.length_append];simp;omega
   · show (t.S ++ _).length ≤ _;rw [List.length_append];simp;omega
   · show (t.L ++ _).length ≤ _;rw [List.length_append,hk];simp;omega
theorem Bnd.tick {k:Nat} {t:SS} (h:Bnd k t) (n:Int) (h0:0 ≤ n) (h1:n ≤ 1000):Bnd (k + 1) { t with clock:=t.clock + n,W:=tkW (t.clock + n) t.W,L:=t.L ++ tkL (t.clock + n) t.W }:=by
 obtain ⟨⟨nx',e,hn⟩,c0,c1,hW,hS,hL⟩:=h
 have hk:(k + 1) * (k + 1 + 1) = k * (k + 1) + 2 * (k + 1):=by rw [Nat.add_mul,Nat.mul_add];omega
 refine ⟨⟨nx',e,by omega⟩,by show 0 ≤ t.clock + n;omega,by show t.clock + n ≤ _;omega,?_,by show t.S.length ≤ _;omega,?_⟩
 · show (tkW _ _).length ≤ _
   unfold tkW
   exact Nat.le_trans (List.length_filter_le _ _) (by omega)
 · show (t.L ++ _).length ≤ _
   have h5:(tkL (t.clock + n) t.W).length ≤ t.W.length:=by unfold tkL;rw [List.length_map];exact List.length_filter_le _ _
   rw [List.length_append,hk]
   omega
structure Cx (w0:World) (x0 x1:Addr) (am:Option Addr) (master:List UInt8) (l tl gK:Nat) (ls:List Lk) (ar:Option Addr) (cR:Nat) (rs:List Rt) (data:List UInt8) (ad:Option Addr) (cd:Nat) (L:List (Int × List UInt8)):Prop where
 M:Mst w0 x0 x1 am master
 kys:KysAt w0 gK ls
 hl:l < ls.length
 ht:tl < ls.length
 hrs:RtsAt w0 ar rs
 hrc:rs.length ≤ cR
 hrn:rs.length ≤ 1048576
 hrz:∀ r ∈ rs,r.1.size ≤ maxLen
 hcd:data.length ≤ cd
 hn:data.length ≤ 1048576
 hop:opB master (ls.getD l ([],[],0)).2.1 data = true
 hC:dC data = 0
 hMt:dM data = ⟨#[48,49,48,48]⟩
 hLd:L = castL (dL data)
 hsz:∀ p ∈ L,p.2.length ≤ 1048576
 hL:L.length ≤ 1048576
 h2:hasN 2 L = true
 h11:hasN 11 L = true
 h52:hasN 52 L = false
 h53:∀ j,j < L.length → ((L.getD j (0,[])).1 == 53) = false
 hbest:∀ a,BestOf (rs.take 20) ⟨(fldN 2 L).toArray⟩ a → a = (tl:Int)
 hst:(fldN 11 L).length ≤ 1048576
 rd:RowAt w0 ad data
structure Cs (t:SS) (am:Option Addr) (cm:Nat) (master:List UInt8) (gK cK:Nat) (ls:List Lk) (ar:Option Addr) (cR:Nat) (rs:List Rt) (hv:Value) (room:Int):Prop where
 hm:t.mst = .slice am master.length cm
 hky:t.kys = .slice (some ⟨gK,0,none⟩) ls.length cK
 hrts:t.rts = .slice ar rs.length cR
 hh:t.hnd = hv
 hroom:t.room = room
theorem Cs.ask {t:SS} {am:Option Addr} {cm:Nat} {master:List UInt8} {gK cK:Nat} {ls:List Lk} {ar:Option Addr} {cR:Nat} {rs:List Rt} {hv:Value} {room:Int} (h:Cs t am cm master gK cK ls ar cR rs hv room) (link:Int) (tl nx:Nat) (stan:ByteArray) (x:Value):Cs (askS t link tl nx stan x) am cm master gK cK ls ar cR rs hv room:=by
 obtain ⟨e1,-,e3,e4,e5,e6⟩:=askS_cfg t link tl nx stan x
 exact ⟨e1.trans h.hm,e5.trans h.hky,e3.trans h.hrts,e6.trans h.hh,e4.trans h.hroom⟩
theorem play_ask {w0:World} {x0 x1:Addr} {am:Option Addr} {cm:Nat} {master:List UInt8} {l tl gK cK:Nat} {ls:List Lk} {ar:Option Addr} {cR:Nat} {rs:List Rt} {data:List UInt8} {ad:Option Addr} {cd:Nat} {L:List (Int × List UInt8)} {hv:Value} {room:Int} (C:Cx w0 x0 x1 am master l tl gK ls ar cR rs data ad cd L) (t:SS) (cs:Cs t am cm master gK cK ls ar cR rs hv room) (k:Nat) (hB:Bnd k t) (hk:k ≤ 60) (gS:Nat) (N:Int)
   (y:World) (b0:Below w0.heap.size w0 y) (h:Ses y w0.heap.size gS (fun q=>w0.heap.size ≤ q) t) (hH:Hnd y hv ⟨#[48,49,48,48]⟩ (hFn gS 70)) :
   Calls Tryz.prog 28 #[.pointer (some ⟨gS,0,none⟩),.agg #[.int .i64 1,.int .i64 (l:Int),.int .i64 N,.slice ad data.length cd]] y fun e y' =>
     e = .returned (.tuple #[]) ∧ (∃ (x:Value) (nx:Nat),t.next = (nx:Int) ∧ Ses y' w0.heap.size gS (fun q=>w0.heap.size ≤ q) (askS t (l:Int) tl nx ⟨(fldN 11 L).toArray⟩ x)) ∧ Below w0.heap.size y y' ∧ Hnd y' hv ⟨#[48,49,48,48]⟩ (hFn gS 70):=by
 obtain ⟨nx,hnx,hn2⟩:=hB.next
 have hkk:k * (k + 1) ≤ 3660:=Nat.le_trans (Nat.mul_le_mul hk (by omega:k + 1 ≤ 61)) (Nat.le_refl _)
 have hLL:=hB.L
 have hLS:=hB.S
 have hLW:=hB.W
 obtain ⟨ak,ck,q1,q2,q3,q4⟩:=C.kys l C.hl
 obtain ⟨ak2,ck2,p1,p2,p3,p4⟩:=C.kys tl C.ht
 have bE:Below y.heap.size y (y.alloc (Obj.cells #[.int .i64 1,.int .i64 (l:Int),.int .i64 N,.slice ad data.length cd] 38)):=below_newS _ _
 have b0E:=b0.trans (bE.mono b0.size)
 refine play_msg gS (l:Int) N (.slice ad data.length cd) y _ ?_ (fun e w' hq=>hq.1)
 refine (take_ask t w0 gS x0 x1 am cm master C.M cs.hm l tl nx hnx (by omega) hB.c0 (by have:=hB.c1;omega) (ls.getD l ([],[],0)).2.1 ak ck q3 q4 (.slice none 0 0) ⟨none,0,0,rfl⟩ (ls.getD tl ([],[],0)).2.1 ak2 ck2 p3 p4 gK ls.length cK cs.hky C.hl q1 q2 C.ht p1 ar cR rs cs.hrts C.hrs C.hrc C.hrn C.hrz data ad cd C.hcd C.hn C.hop C.hC C.hMt L C.hLd C.hsz C.hL C.h2 C.h11 C.h52 C.h53 C.hbest C.hst _ b0E (h.below bE) (by rw [cs.hh];exact hH.sm (ts:=[]) (Sm.below bE)) (C.rd.below b0E) (by omega) (by omega) (by omega)).mono ?_
 rintro e y' ⟨rfl,⟨x,hS⟩,bY,sY⟩
 exact ⟨rfl,⟨x,nx,hnx,hS⟩,(bE.mono b0.size).trans bY,(hH.sm (ts:=[]) (Sm.below bE)).sm sY⟩
theorem play_tk {w0:World} (t:SS) (k:Nat) (hB:Bnd k t) (hk:k ≤ 60) (gS:Nat) (l n:Int) (hn0:0 ≤ n) (hn1:n ≤ 1000) (dv hv:Value) (y:World) (b0:Below w0.heap.size w0 y) (h:Ses y w0.heap.size gS (fun q=>w0.heap.size ≤ q) t) (hH:Hnd y hv ⟨#[48,49,48,48]⟩ (hFn gS 70)) :
   Calls Tryz.prog 28 #[.pointer (some ⟨gS,0,none⟩),.agg #[.int .i64 2,.int .i64 l,.int .i64 n,dv]] y fun e y' =>
     e = .returned (.tuple #[]) ∧ Ses y' w0.heap.size gS (fun q=>w0.heap.size ≤ q) { t with clock:=t.clock + n,W:=tkW (t.clock + n) t.W,L:=t.L ++ tkL (t.clock + n) t.W } ∧ Below w0.heap.size y y' ∧ Hnd y' hv ⟨#[48,49,48,48]⟩ (hFn gS 70):=by
 have hkk:k * (k + 1) ≤ 3660:=Nat.le_trans (Nat.mul_le_mul hk (by omega:k + 1 ≤ 61)) (Nat.le_refl _)
 have hLL:=hB.L
 have hLW:=hB.W
 have bE:Below y.heap.size y (y.alloc (Obj.cells #[.int .i64 2,.int .i64 l,.int .i64 n,dv] 38)):=below_newS _ _
 have b0E:=b0.trans (bE.mono b0.size)
 refine play_tick gS l n dv y _ ?_ (fun e w' hq=>hq.1)
 refine (tick_any t w0 gS n hB.c0 (by have:=hB.c1;omega) hn0 hn1 _ b0E (h.below bE) (by omega) (by omega)).mono ?_
 rintro e y' ⟨rfl,hS,bY,sY⟩
 exact ⟨rfl,hS,(bE.mono b0.size).trans bY,(hH.sm (ts:=[]) (Sm.below bE)).sm sY⟩
end Go.Proofs.YtbkokcjolanpeaaGreatDoor
