import Derived.Test.YtbkokcjolanpeaaGreatDoorRgAP
namespace Go.Proofs.YtbkokcjolanpeaaGreatDoor
open Go.RowKit
set_option maxRecDepth 100000 in
set_option maxHeartbeats 1000000 in
theorem indexI_yes (ns:List Int) (hns:ns.length ≤ 2) (no:Int) (hin:∃ i,i < ns.length ∧ (no == ns.getD i 0) = true) (gN:Nat) (w:World) (hN:∀ i,i < ns.length → w.cell? ⟨gN,i,none⟩ = some (.int .i64 (ns.getD i 0))) :
   Calls Tryz.prog 98 #[.slice (some ⟨gN,0,none⟩) ns.length ns.length,.int .i64 no] w fun e w'=>(∃ r:Nat,e = .returned (.int .i64 (r:Int))) ∧ w' = w:=by
 obtain ⟨n,hn⟩:∃ n,n = ns.length:=⟨_,rfl⟩
 have HIN:=hideT hin
 have HN:=hideT hN
 rw [← hn] at HIN HN hns ⊢
 clear hin hN hn
 go_enter Tryz.func98,Tryz.ntmps98
 go_wp2_with fail
 go_loopw [8] (fun i wr=>∃ k:Nat,k ≤ n ∧ i = .int .i64 (k:Int) ∧ Hid (∀ j,j < k → (no == ns.getD j 0) = false) ∧ wr = w) (fun i _=>n - (intOf i).toNat)
 case atStart=>exact ⟨0,Nat.zero_le _,rfl,fun j h=>absurd h (Nat.not_lt_zero j),rfl⟩
 case round =>
   obtain ⟨k,hk,rfl,HJ,hw⟩:=hrel
   have hw2:=hw.symm
   subst hw2
   clear hw
   by_cases hlt:k < n
   · have hltI:(k:Int) < (n:Int):=by omega
     have ck:=HN.out k hlt
     obtain ⟨q,hq⟩:∃ q,q = ns.getD k 0:=⟨_,rfl⟩
     rw [← hq] at ck
     have HQ:=hideT hq
     clear hq
     cases hb:(no == q)
     · go_wp2_with fail
       go_roundw
       case rel=>exact ⟨k + 1,by omega,by go_num,fun j hj=>by
         by_cases hjk:j = k
         · rw [hjk,← HQ.out];exact hb
         · exact HJ.out j (by omega),trivial⟩
       case measure=>simp [intOf];omega
     · go_wp2_with fail
       go_ret
       exact ⟨⟨k,rfl⟩,rfl⟩
   · exfalso
     obtain ⟨i,hi,he⟩:=HIN.out
     rw [HJ.out i (by omega)] at he
     cases he
set_option maxHeartbeats 1000000 in
theorem containsI_yes (ns:List Int) (hns:ns.length ≤ 2) (no:Int) (hin:∃ i,i < ns.length ∧ (no == ns.getD i 0) = true) (gN:Nat) (w:World) (hN:∀ i,i < ns.length → w.cell? ⟨gN,i,none⟩ = some (.int .i64 (ns.getD i 0))) :
   Calls Tryz.prog 48 #[.slice (some ⟨gN,0,none⟩) ns.length ns.length,.int .i64 no] w fun e w'=>e = .returned (.bool true) ∧ w' = w:=by
 have HI:=hideT (indexI_yes ns hns no hin gN w hN)
 obtain ⟨n,hn⟩:∃ n,n = ns.length:=⟨_,rfl⟩
 rw [← hn] at HI ⊢
 clear hn hin hN hns
 go_enter Tryz.func48,Tryz.ntmps48
 go_wp2_with fail
 refine HI.out.mono ?_
 rintro e w2 ⟨⟨r,rfl⟩,hw⟩
 have hw2:=hw.symm
 subst hw2
 clear hw
 have hr:(0:Int) ≤ (r:Int):=by omega
 go_wp2_with fail
 go_ret
 exact ⟨rfl,rfl⟩
abbrev zeroKI3:List Value:=[.int .i64 0,.int .i64 0,.slice none 0 0]
theorem Tryz.zeroKI3:(Tryz.prog.info? 55).map (fun i=>(i.zero,i.size)) = some (some (.agg zeroKI3.toArray),3):=by kernel_rfl
set_option maxRecDepth 100000 in
set_option maxHeartbeats 1000000 in
theorem openFor_ok (master block:List UInt8) (am ab:Option Addr) (cm cb:Nat) (x0 x1:Addr) (ns:List Int) (hns:ns.length ≤ 2) (h1:formOK master block = true) (h2:tagOK master block = true) (hin:∃ i,i < ns.length ∧ (opU master block == ns.getD i 0) = true) (gN:Nat) (w:World) (hcb:block.length ≤ cb) (hs:Sents w x0 x1) (rm:RowAt w am master) (rb:RowAt w ab block) (hN:∀ i,i < ns.length → w.cell? ⟨gN,i,none⟩ = some (.int .i64 (ns.getD i 0))) :
   Calls Tryz.prog 116 #[.slice am master.length cm,.slice ab block.length cb,.slice (some ⟨gN,0,none⟩) ns.length ns.length] w fun e w'=>(∃ a c,e = .returned (.tuple #[.agg #[.int .i64 (opU master block),.int .i64 (opG master block),.slice a (opKey master block).length c],.nilIface]) ∧ RowAt w' a (opKey master block)) ∧ Below w.heap.size w w':=by
 have hz:=(zero_of_info Tryz.zeroKI3).1
 obtain ⟨gQ,hgQ⟩:∃ n,n = w.heap.size:=⟨_,rfl⟩
 obtain ⟨W,hW⟩:∃ y,y = w.alloc (Obj.cells zeroKI3.toArray 55):=⟨_,rfl⟩
 have bW:Below w.heap.size w W:=by rw [hW];exact below_newS _ _
 have kQ:Blk W gQ 55 zeroKI3:=by rw [hW,hgQ];exact Blk.new _ _ _
 have HO:=hideT (open_any master block am ab cm cb x0 x1 W hcb (hs.below bW) (rm.below bW) (rb.below bW))
 rw [show opErr x0 x1 master block = .nilIface from by unfold opErr;rw [h1,h2];rfl] at HO
 have HCO:=hideT (fun (y:World) (hy:Below w.heap.size w y)=>containsI_yes ns hns (opU master block) hin gN y (fun i hi=>(hy.cell (p:=⟨gN,i,none⟩) (World.block_lt_of_cell? w _ (hN i hi))).trans (hN i hi)))
 obtain ⟨n,hn⟩:∃ n,n = ns.length:=⟨_,rfl⟩
 obtain ⟨nm,hnm⟩:∃ n,n = master.length:=⟨_,rfl⟩
 obtain ⟨nb,hnb⟩:∃ n,n = block.length:=⟨_,rfl⟩
 obtain ⟨U,hU⟩:∃ n,n = opU master block:=⟨_,rfl⟩
 obtain ⟨G,hG⟩:∃ n,n = opG master block:=⟨_,rfl⟩
 rw [← hn,← hU] at HCO
 rw [← hnm,← hnb,← hU,← hG] at HO
 rw [← hn,← hnm,← hnb,← hU,← hG]
 have HW:=hideT hW
 have HGQ:=hideT hgQ
 have HGQ2:=hideT hgQ
 clear hn hnm hnb hU hG hW hgQ hin hN h1 h2 hs rm rb
 go_enter Tryz.func116,Tryz.ntmps116
 go_upto_region 1 with fail
 rw [← show W = _ from HW,← show gQ = _ from HGQ]
 clear HW HGQ
 go_wp2_with fail
 refine HO.out.mono ?_
 rintro e X1 ⟨v,rfl,own1,b1⟩
 obtain ⟨a1,c1,rfl,r1,hlow1,hc1⟩:=own1.shape
 obtain ⟨nK,hnK⟩:∃ n,n = (opKey master block).length:=⟨_,rfl⟩
 rw [← hnK]
 have HNK:=hideT hnK
 obtain ⟨gI,hgI⟩:∃ n,n = X1.heap.size:=⟨_,rfl⟩
 obtain ⟨X2,hX2⟩:∃ y,y = X1.alloc (Obj.cells #[.int .i64 U,.int .i64 G,.slice a1 nK c1] 55):=⟨_,rfl⟩
 have b2:Below X1.heap.size X1 X2:=by rw [hX2];exact below_newS _ _
 have kI:Blk X2 gI 55 [.int .i64 U,.int .i64 G,.slice a1 nK c1]:=by rw [hX2,hgI];exact Blk.new _ _ _
 have b12:=b1.trans (b2.mono b1.size)
 have bw2:=bW.trans (b12.mono bW.size)
 have kQ2:=kQ.below b12 kQ.lt
 have i0:=kI.cell 0 (by simp)
 have R2:=hideT (r1.below b2)
 have HX2:=hideT hX2
 have HGI:=hideT hgI
 have hnb:=own_not own1 (show gQ < W.heap.size from kQ.lt)
 clear hnK hX2 hgI own1 r1 hlow1 hc1 HO
 go_upto_region 2 with fail
 rw [← show X2 = _ from HX2,← show gI = _ from HGI]
 clear HX2 HGI
 go_wp2_with fail
 refine (HCO.out X2 bw2).mono ?_
 rintro e X3 ⟨rfl,hw⟩
 have hw2:=hw.symm
 subst hw2
 clear hw
 go_wp2_with (first
   | (refine load_blk rfl 55 _ rfl gI rfl kI Tryz.underlying55 rfl (by kernel_rfl) ?_)
   | (refine store_blk (cs:=[.int .i64 U,.int .i64 G,.slice a1 nK c1]) rfl 55 _ _ rfl gQ rfl rfl kQ2 (by kernel_rfl) rfl (by simp [Value.oneCell']) ?_;intro w3 kQ3 g3 hs3))
 refine bodyPost_ret (results_blk_tmp Tryz.results116 _ _ rfl kQ3 Tryz.underlying55 rfl (by kernel_rfl)) rfl ⟨⟨a1,c1,by rw [← HNK.out];rfl,R2.out.grown g3 (fun a ha e=>by
   cases ha
   rcases hnb with h | h
   · cases h
   · exact h e.symm)⟩,bw2.grown g3 bw2.size (fun k hk=>by cases hk;rw [HGQ2.out];exact Nat.le_refl _)⟩
set_option maxRecDepth 100000 in
set_option maxHeartbeats 1000000 in
theorem checkKeys_ok (master pin mac:List UInt8) (am ap ac:Option Addr) (cm cp cc:Nat) (fm:Int) (x0 x1:Addr) (p1:formOK master pin = true) (p2:tagOK master pin = true) (p3:opU master pin = 1 ∨ opU master pin = 3) (m1:formOK master mac = true) (m2:tagOK master mac = true) (m3:opU master mac = 2) (w:World) (hcp:pin.length ≤ cp) (hcc:mac.length ≤ cc) (hs:Sents w x0 x1) (rm:RowAt w am master) (rp:RowAt w ap pin) (rc:RowAt w ac mac) :
   Calls Tryz.prog 69 #[.slice am master.length cm,.agg #[.slice ap pin.length cp,.slice ac mac.length cc,.int .i64 fm]] w fun e w'=>e = .returned .nilIface ∧ Below w.heap.size w w':=by
 have hz:=(zero_of_info Tryz.zeroKI3).1
 obtain ⟨gL,hgL⟩:∃ n,n = w.heap.size:=⟨_,rfl⟩
 obtain ⟨W,hW⟩:∃ y,y = w.alloc (Obj.cells #[.slice ap pin.length cp,.slice ac mac.length cc,.int .i64 fm] 35):=⟨_,rfl⟩
 have bW:Below w.heap.size w W:=by rw [hW];exact below_newS _ _
 have kL:Blk W gL 35 [.slice ap pin.length cp,.slice ac mac.length cc,.int .i64 fm]:=by rw [hW,hgL];exact Blk.new _ _ _
 have l0:=kL.cell 0 (by simp)
 obtain ⟨gN,hgN⟩:∃ n,n = W.heap.size:=⟨_,rfl⟩
 obtain ⟨W1,hW1⟩:∃ y,y = W.alloc (Obj.cells #[.int .i64 1,.int .i64 3] 3):=⟨_,rfl⟩
 have bW1:Below W.heap.size W W1:=by rw [hW1];exact below_newS _ _
 have kN:Blk W1 gN 3 [.int .i64 1,.int .i64 3]:=by rw [hW1,hgN];exact Blk.new _ _ _
 have bw1:=bW.trans (bW1.mono bW.size)
 have HO1:=hideT (openFor_ok master pin am ap cm cp x0 x1 [1,3] (by decide) p1 p2 (by
   rcases p3 with e | e
   · exact ⟨0,by decide,by rw [e];rfl⟩
   · exact ⟨1,by decide,by rw [e];rfl⟩) gN W1 hcp (hs.below bw1) (rm.below bw1) (rp.below bw1) (fun i hi=>by
   have hi2:i = 0 ∨ i = 1:=by simp at hi;omega
   rcases hi2 with rfl | rfl
   · exact kN.cell 0 (by simp)
   · exact kN.cell 1 (by simp)))
 have HO2:=hideT (fun (gK:Nat) (y:World) (hy:Below w.heap.size w y) (hk:y.cell? ⟨gK,0,none⟩ = some (.int .i64 2))=>openFor_ok master mac am ac cm cc x0 x1 [2] (by decide) m1 m2 ⟨0,by decide,by rw [m3];rfl⟩ gK y hcc (hs.below hy) (rm.below hy) (rc.below hy) (fun i hi=>by
   obtain rfl:i = 0:=by simp at hi;omega
   exact hk))
 obtain ⟨nm,hnm⟩:∃ n,n = master.length:=⟨_,rfl⟩
 obtain ⟨np,hnp⟩:∃ n,n = pin.length:=⟨_,rfl⟩
 obtain ⟨nc,hnc⟩:∃ n,n = mac.length:=⟨_,rfl⟩
 rw [← hnm,← hnp] at HO1
 rw [← hnm,← hnc] at HO2
 rw [← hnp,← hnc] at hW kL
 rw [← hnp] at l0
 rw [← hnm,← hnp,← hnc]
 have HW:=hideT hW
 have HW1:=hideT hW1
 have HGL:=hideT hgL
 have HGN:=hideT hgN
 clear hW hW1 hgL hgN hnm hnp hnc kN hs rm rp rc p1 p2 p3 m1 m2 m3
 go_enter Tryz.func69,Tryz.ntmps69
 go_upto_region 1 with fail
 rw [← show W = _ from HW,← show gL = _ from HGL]
 clear HW HGL
 go_wp2_with fail
 rw [← show W1 = _ from HW1,← show gN = _ from HGN]
 clear HW1 HGN
 refine HO1.out.mono ?_
 rintro e X1 ⟨⟨a1,c1,rfl,-⟩,b1⟩
 obtain ⟨nk,hnk⟩:∃ n,n = (opKey master pin).length:=⟨_,rfl⟩
 rw [← hnk]
 clear hnk HO1
 obtain ⟨U,hU⟩:∃ n,n = opU master pin:=⟨_,rfl⟩
 obtain ⟨G,hG⟩:∃ n,n = opG master pin:=⟨_,rfl⟩
 rw [← hU,← hG]
 clear hU hG
 obtain ⟨X2,hX2⟩:∃ y,y = X1.alloc (Obj.cells #[.int .i64 U,.int .i64 G,.slice a1 nk c1] 55):=⟨_,rfl⟩
 have b2:Below X1.heap.size X1 X2:=by rw [hX2];exact below_newS _ _
 have b12:=b1.trans (b2.mono b1.size)
 have bw2:=bw1.trans (b12.mono bw1.size)
 have bWX:Below W.heap.size W X2:=bW1.trans (b12.mono bW1.size)
 have k1:=(kL.below bWX kL.lt).cell 1 (by simp)
 obtain ⟨gK,hgK⟩:∃ n,n = X2.heap.size:=⟨_,rfl⟩
 obtain ⟨X3,hX3⟩:∃ y,y = X2.alloc (Obj.cells #[.int .i64 2] 3):=⟨_,rfl⟩
 have b3:Below X2.heap.size X2 X3:=by rw [hX3];exact below_newS _ _
 have kK:Blk X3 gK 3 [.int .i64 2]:=by rw [hX3,hgK];exact Blk.new _ _ _
 have bw3:=bw2.trans (b3.mono bw2.size)
 have HO3:=hideT (HO2.out gK X3 bw3 (kK.cell 0 (by simp)))
 have HX2:=hideT hX2
 have HX3:=hideT hX3
 have HGK:=hideT hgK
 clear hX2 hX3 hgK kK HO2 b2 b12 bWX
 go_upto_region 2 with fail
 rw [← show X2 = _ from HX2]
 clear HX2
 go_wp2_with fail
 rw [← show X3 = _ from HX3,← show gK = _ from HGK]
 clear HX3 HGK
 refine HO3.out.mono ?_
 rintro e X4 ⟨⟨a4,c4,rfl,-⟩,b4⟩
 have bw4:=bw3.trans (b4.mono bw3.size)
 obtain ⟨nk4,hnk4⟩:∃ n,n = (opKey master mac).length:=⟨_,rfl⟩
 rw [← hnk4]
 obtain ⟨U4,hU4⟩:∃ n,n = opU master mac:=⟨_,rfl⟩
 obtain ⟨G4,hG4⟩:∃ n,n = opG master mac:=⟨_,rfl⟩
 rw [← hU4,← hG4]
 clear hnk4 hU4 hG4 HO3
 go_wp2_with fail
 go_ret
 exact ⟨rfl,bw4.alloc bw4.size _⟩
abbrev Lk:=List UInt8 × List UInt8 × Int
def LksAt (w:World) (ao:Option Addr) (ls:List Lk):Prop:=∀ i,i < ls.length → ∃ g o a1 c1 a2 c2,ao = some ⟨g,o,none⟩ ∧ w.cell? ⟨g,o + i * 3,none⟩ = some (.slice a1 (ls.getD i ([],[],0)).1.length c1) ∧ w.cell? ⟨g,o + i * 3 + 1,none⟩ = some (.slice a2 (ls.getD i ([],[],0)).2.1.length c2) ∧ w.cell? ⟨g,o + i * 3 + 2,none⟩ = some (.int .i64 (ls.getD i ([],[],0)).2.2) ∧ (ls.getD i ([],[],0)).1.length ≤ c1 ∧ (ls.getD i ([],[],0)).2.1.length ≤ c2 ∧ RowAt w a1 (ls.getD i ([],[],0)).1 ∧ RowAt w a2 (ls.getD i ([],[],0)).2.1
theorem LksAt.below {w w':World} {ao:Option Addr} {ls:List Lk} (h:LksAt w ao ls) (hb:Below w.heap.size w w'):LksAt w' ao ls:=fun i hi=>by
 obtain ⟨g,o,a1,c1,a2,c2,e,h1,h2,h3,h4,h5,r1,r2⟩:=h i hi
 have hl:=World.block_lt_of_cell? w _ h1
 exact ⟨g,o,a1,c1,a2,c2,e,(hb.cell (p:=⟨g,o + i * 3,none⟩) hl).trans h1,(hb.cell (p:=⟨g,o + i * 3 + 1,none⟩) hl).trans h2,(hb.cell (p:=⟨g,o + i * 3 + 2,none⟩) hl).trans h3,h4,h5,r1.below hb,r2.below hb⟩
def KysAt (w:World) (gK:Nat) (ls:List Lk):Prop:=∀ i,i < ls.length → ∃ a c,w.cell? ⟨gK,i * 2,none⟩ = some (.slice a (ls.getD i ([],[],0)).2.1.length c) ∧ w.cell? ⟨gK,i * 2 + 1,none⟩ = some (.slice none 0 0) ∧ (ls.getD i ([],[],0)).2.1.length ≤ c ∧ RowAt w a (ls.getD i ([],[],0)).2.1
def nowC (vals:List Value):List Value:=vals.flatMap fun v=>[v,.slice none 0 0]
theorem nowC_at (vals:List Value):∀ i,i < vals.length → (nowC vals)[i * 2]? = some (vals.getD i undef) ∧ (nowC vals)[i * 2 + 1]? = some (.slice none 0 0):=by
 induction vals with
 | nil=>intro i hi;exact absurd hi (Nat.not_lt_zero i)
 | cons a r ih =>
   intro i hi
   cases i with
   | zero=>exact ⟨rfl,rfl⟩
   | succ i =>
     have:=ih i (by simpa using hi)
     exact ⟨by rw [show (i + 1) * 2 = i * 2 + 2 from by omega];exact this.1,by rw [show (i + 1) * 2 + 1 = i * 2 + 1 + 2 from by omega];exact this.2⟩
def ValsOk (w:World) (ls:List Lk) (vals:List Value):Prop:=∀ i,i < vals.length → ∃ a c,vals.getD i undef = .slice a (ls.getD i ([],[],0)).2.1.length c ∧ (ls.getD i ([],[],0)).2.1.length ≤ c ∧ RowAt w a (ls.getD i ([],[],0)).2.1
theorem Tryz.infoMk:(Tryz.prog.info? 140).map (fun i=>(i.zero,i.size,i.bytes)) = some (some (.agg #[.slice none 0 0,.slice none 0 0]),2,48):=by kernel_rfl
def KeysOk (master:List UInt8) (p:Lk):Prop:=(formOK master p.1 = true ∧ tagOK master p.1 = true ∧ (opU master p.1 = 1 ∨ opU master p.1 = 3)) ∧ formOK master p.2.1 = true ∧ tagOK master p.2.1 = true ∧ opU master p.2.1 = 2
set_option maxRecDepth 100000 in
set_option maxHeartbeats 1000000 in
theorem openLinks_ok (master:List UInt8) (ls:List Lk) (hls:ls.length ≤ 8) (hne:0 < ls.length) (hok:∀ i,i < ls.length → KeysOk master (ls.getD i ([],[],0))) (am al:Option Addr) (cm cl:Nat) (x0 x1:Addr) (w:World) (hs:Sents w x0 x1) (rm:RowAt w am master) (hl:LksAt w al ls) :
   Calls Tryz.prog 26 #[.slice am master.length cm,.slice al ls.length cl] w fun e w'=>(∃ gK cK,e = .returned (.tuple #[.slice (some ⟨gK,0,none⟩) ls.length cK,.nilIface]) ∧ KysAt w' gK ls) ∧ Below w.heap.size w w':=by
 obtain ⟨i0,hi0,hz0,hz1,hz2⟩:=info_parts Tryz.infoMk
 obtain ⟨n,hn⟩:∃ n,n = ls.length:=⟨_,rfl⟩
 obtain ⟨nm,hnm⟩:∃ n,n = master.length:=⟨_,rfl⟩
 have HCK:=hideT (fun (p m:List UInt8) (ap ac:Option Addr) (cp cc:Nat) (fm:Int) (q:KeysOk master (p,m,fm)) (y:World) (hy:Below w.heap.size w y) (h1:p.length ≤ cp) (h2:m.length ≤ cc) (r1:RowAt w ap p) (r2:RowAt w ac m)=>checkKeys_ok master p m am ap ac cm cp cc fm x0 x1 q.1.1 q.1.2.1 q.1.2.2 q.2.1 q.2.2.1 q.2.2.2 y h1 h2 (hs.below hy) (rm.below hy) (r1.below hy) (r2.below hy))
 have HOK:=hideT hok
 have HLK:=hideT hl
 rw [← hnm] at HCK
 rw [← hn] at hls hne ⊢
 rw [← hnm]
 have HN:=hideT hn
 clear hn hnm hs rm hl hok
 go_enter Tryz.func26,Tryz.ntmps26
 go_wp2_with (at_make;go_loud (refine wpList_make_own _ rfl _ _ 73 rfl w.heap.size 140 i0 _ 2 Tryz.underlying73 hi0 hz0 hz1 .i64 .i64 _ n rfl rfl rfl (by rw [hz2];omega) (by unfold maxLen;omega) (Nat.le_refl _) ?_);intro w3 own3 gr3;have b3:=below_of_grown gr3;clear gr3)
 go_loopw [6,15] (fun v i wr=>∃ (k:Nat) (vals:List Value) (a:Option Addr) (c:Nat),k ≤ n ∧ i = .int .i64 (k:Int) ∧ v = .slice a k c ∧ Hid (vals.length = k) ∧ Hid (ValsOk w ls vals) ∧ Hid (wr.ownsRow w.heap.size 140 2 (.slice a k c) k (nowC vals)) ∧ Below w.heap.size w wr) (fun _ i _=>n - (intOf i).toNat)
 case atStart=>exact ⟨0,[],some ⟨w.heap.size,0,none⟩,n,Nat.zero_le _,rfl,rfl,rfl,fun i hi=>absurd hi (Nat.not_lt_zero i),own3,b3⟩
 case round =>
   clear own3 b3
   obtain ⟨k,vals,a,c,hk,rfl,rfl,HVL,HVO,HRO,hbel⟩:=hrel
   by_cases hlt:k < n
   · have hltI:(k:Int) < (n:Int):=by omega
     have hkL:k < ls.length:=by rw [← HN.out];exact hlt
     obtain ⟨g,o,a1,c1,a2,c2,e,q1,q2,q3,q4,q5,r1,r2⟩:=HLK.out k hkL
     subst e
     have hkk:=HOK.out k hkL
     obtain ⟨P1,hP1⟩:∃ q,q = (ls.getD k ([],[],0)).1:=⟨_,rfl⟩
     obtain ⟨P2,hP2⟩:∃ q,q = (ls.getD k ([],[],0)).2.1:=⟨_,rfl⟩
     obtain ⟨fm,hfm⟩:∃ q,q = (ls.getD k ([],[],0)).2.2:=⟨_,rfl⟩
     have hkk2:KeysOk master (P1,P2,fm):=by rw [hP1,hP2,hfm];exact hkk
     rw [← hP1] at q1 q4 r1
     rw [← hP2] at q2 q5 r2
     rw [← hfm] at q3
     have hlw:=World.block_lt_of_cell? w _ q1
     have d1:=(hbel.cell (p:=⟨g,o + k * 3,none⟩) hlw).trans q1
     have d2:=(hbel.cell (p:=⟨g,o + k * 3 + 1,none⟩) hlw).trans q2
     have d3:=(hbel.cell (p:=⟨g,o + k * 3 + 2,none⟩) hlw).trans q3
     obtain ⟨gL,hgL⟩:∃ n,n = wr.heap.size:=⟨_,rfl⟩
     obtain ⟨n1,hn1⟩:∃ n,n = P1.length:=⟨_,rfl⟩
     obtain ⟨n2,hn2⟩:∃ n,n = P2.length:=⟨_,rfl⟩
     rw [← hn1] at d1
     rw [← hn2] at d2
     obtain ⟨W,hW⟩:∃ y,y = wr.alloc (Obj.cells #[.slice a1 n1 c1,.slice a2 n2 c2,.int .i64 fm] 35):=⟨_,rfl⟩
     have bW:Below wr.heap.size wr W:=by rw [hW];exact below_newS _ _
     have kL:Blk W gL 35 [.slice a1 n1 c1,.slice a2 n2 c2,.int .i64 fm]:=by rw [hW,hgL];exact Blk.new _ _ _
     have bwW:=hbel.trans (bW.mono hbel.size)
     have HC:=hideT (HCK.out P1 P2 a1 a2 c1 c2 fm hkk2 W bwW q4 q5 r1 r2)
     rw [← hn1,← hn2] at HC
     have HNEW:Hid (ValsOk w ls (vals ++ [.slice a2 n2 c2])):=fun i hi=>by
       rw [List.length_append] at hi
       by_cases hc:i < vals.length
       · rw [getD_left _ _ _ _ hc];exact HVO.out i hc
       · have hiL:i = vals.length:=by simp at hi;omega
         rw [getD_last _ _ _ _ hiL,hiL,HVL.out,← hP2]
         exact ⟨a2,c2,by rw [hn2],q5,r2⟩
     have HW:=hideT hW
     have HGL:=hideT hgL
     clear hW hgL hP1 hP2 hfm hkk hkk2 q1 q2 q3 q4 q5 r1 r2 hlw hn1 hn2
     go_upto_region 5 with fail
     rw [← show W = _ from HW,← show gL = _ from HGL]
     clear HW HGL
     go_wp2_with (refine load_blk rfl 35 _ rfl gL rfl kL Tryz.underlying35 rfl (by kernel_rfl) ?_)
     refine HC.out.mono ?_
     rintro e X1 ⟨rfl,b1⟩
     have l1:=(kL.below b1 kL.lt).cell 1 (by simp)
     obtain ⟨X2,hX2⟩:∃ y,y = X1.alloc (Obj.cells #[.slice a2 n2 c2,.slice none 0 0] 140):=⟨_,rfl⟩
     have b2:Below X1.heap.size X1 X2:=by rw [hX2];exact below_newS _ _
     have k2:Blk X2 X1.heap.size 140 [.slice a2 n2 c2,.slice none 0 0]:=by rw [hX2];exact Blk.new _ _ _
     have brX:=bW.trans ((b1.trans (b2.mono b1.size)).mono bW.size)
     have bwX:=hbel.trans (brX.mono hbel.size)
     have ROW:=hideT (own_sm (ts:=[]) HRO.out (Sm.below brX) (by simp))
     have K2:=hideT k2
     have HX2:=hideT hX2
     have hzX:w.heap.size ≤ X2.heap.size:=bwX.size
     have BWX:=hideT bwX
     clear hX2 k2 b2 b1 bW bwW brX bwX d1 d2 d3 HC kL
     go_wp2_with (at_builtin;(rw [← show X2 = _ from HX2];refine wpList_append_own _ rfl _ _ 73 rfl w.heap.size 140 i0 (.agg #[.slice none 0 0,.slice none 0 0]) 2 48 Tryz.underlying73 hi0 hz0 hz1 hz2 rfl (by decide) (.slice a k c) k _ rfl ROW.out ⟨X1.heap.size,0,none⟩ 1 1 [.slice a2 n2 c2,.slice none 0 0] rfl rfl (newsB K2.out) (by intro u hu;simp at hu;rcases hu with rfl | rfl <;> rfl) (by unfold maxLen;omega) (by omega) hzX ?_;intro v5 Y row5 gr5 _;obtain ⟨a5,c5,rfl⟩:=ownS row5))
     have HF:=hideT (And.intro row5 gr5)
     clear row5 gr5
     go_roundw
     case rel =>
       refine ⟨k + 1,vals ++ [.slice a2 n2 c2],a5,c5,by omega,by go_num,rfl,?_,HNEW,?_,BWX.out.grown HF.out.2 hzX (fun j hj=>(ROW.out.lt j hj).1)⟩
       · show (vals ++ [Value.slice a2 n2 c2]).length = k + 1
         rw [List.length_append,HVL.out];rfl
       · have r:=HF.out.1
         show World.ownsRow _ _ _ _ _ _ _
         unfold nowC at r ⊢
         rw [List.flatMap_append]
         exact r
     case measure=>simp [intOf];omega
   · obtain rfl:k = n:=by omega
     have hltI:¬ (k:Int) < (k:Int):=by omega
     have hrow:=HRO.out
     obtain ⟨gK,rfl⟩:∃ gK,a = some ⟨gK,0,none⟩:=by
       rcases hrow.2 with ⟨_,hz⟩ | ⟨g,cc,cur,hv,-⟩
       · omega
       · cases hv;exact ⟨g,rfl⟩
     have HKY:Hid (KysAt wr gK ls):=fun i hi=>by
       have hik:i < k:=by rw [HN.out];exact hi
       have hiv:i < vals.length:=by rw [HVL.out];exact hik
       obtain ⟨aa,cc,e1,e2,e3⟩:=HVO.out i hiv
       obtain ⟨n1,n2⟩:=nowC_at vals i hiv
       refine ⟨aa,cc,?_,?_,e2,e3.below hbel⟩
       · rw [hrow.cellAt (i * 2) (by omega),n1,e1]
       · rw [hrow.cellAt (i * 2 + 1) (by omega),n2]
     clear hrow
     go_wp2_with fail
     go_ret2
     exact ⟨⟨gK,⟨c,rfl⟩,HKY.out⟩,hbel⟩
theorem fldO (a b c:Int) (s:Option Addr) (n k:Nat) (w:World):(Instr.field 145 (.agg #[.int .i64 a,.int .i64 b,.int .i64 c,.slice s n k]) 1).run Tryz.prog w = .ok (.agg #[.int .i64 b,.int .i64 c,.slice s n k]) w:=by kernel_rfl
theorem fldK (b c:Int) (s:Option Addr) (n k:Nat) (w:World):(Instr.field 55 (.agg #[.int .i64 b,.int .i64 c,.slice s n k]) 1).run Tryz.prog w = .ok (.int .i64 c) w:=by kernel_rfl
theorem Tryz.infoIn:(Tryz.prog.info? 3).map (fun i=>(i.zero,i.size,i.bytes)) = some (some (.int .i64 0),1,8):=by kernel_rfl
theorem wp_append_In {w:World} {o:Oper} {a:Act} {K:Act → World → Prop} {Q:Exit → Act → World → Prop} (s x:Operand)
   (ho:o.op = .call { callee:=.builtin .append,args:=#[s,x],argTypes:=#[42,42] }) (base:Nat) (v:Value) (n:Nat) (xs:List Value) (hs:a.eval s = v) (hown:w.ownsRow base 3 1 v n xs)
   (ad:Addr) (m c:Nat) (news:List Value) (hx:a.eval x = .slice (some ad) m c) (hl:news.length = m * 1) (hnews:∀ j u,news[j]? = some u → w.cell? (ad.add j) = some u) (h1:∀ u ∈ news,u.oneCell' = true)
   (h63:n + m ≤ maxLen) (hbytes:(n + m) * 8 ≤ 140737488355328) (hbase:base ≤ w.heap.size)
   (h:∀ v' w',w'.ownsRow base 3 1 v' (n + m) (xs ++ news) → w.grownBy w' v.ownBlock → K (a.put o.dst v') w'):o.wp Tryz.prog a w K Q:=by
 obtain ⟨i0,hi,hz0,hz1,hz2⟩:=info_parts Tryz.infoIn
 obtain ⟨v',w',hr,h2,h3,-,-⟩:=run_append_own_at (P:=Tryz.prog) w base 42 o.type 3 i0 (.int .i64 0) 1 8 Tryz.underlying42 hi hz0 hz1 hz2 rfl (by decide) v n xs hown ad m c news hl hnews h1 h63 hbytes hbase
 unfold Oper.wp execOp
 simp only [ho,resolve,invoke,builtin,Sem.run_bind,Sem.run_pure,Result.andThen_ok,List.map_toArray,List.map_cons,List.map_nil,hs,hx,hr]
 exact h v' w' h2 h3
set_option maxRecDepth 100000 in
set_option maxHeartbeats 1000000 in
theorem gens_any (s:SS) (B gS:Nat) (P:Nat → Prop) (x0 x1:Addr) (am:Option Addr) (cm:Nat) (master:List UInt8) (hm:s.mst = .slice am master.length cm) (gK cK:Nat) (ls:List Lk) (hls:ls.length ≤ 8) (hky:s.kys = .slice (some ⟨gK,0,none⟩) ls.length cK) (w:World) (hs:Sents w x0 x1) (rm:RowAt w am master) (h:Ses w B gS P s) (hk:KysAt w gK ls) :
   Calls Tryz.prog 29 #[.pointer (some ⟨gS,0,none⟩)] w fun e w'=>(∃ a c,e = .returned (.slice a ls.length c)) ∧ Below w.heap.size w w':=by
 obtain ⟨i0,hi0,hz0,hz1,hz2⟩:=info_parts Tryz.infoIn
 obtain ⟨wv,sv,lv,ps,h⟩:=h
 obtain ⟨n,hn⟩:∃ n,n = ls.length:=⟨_,rfl⟩
 obtain ⟨nM,hnM⟩:∃ n,n = master.length:=⟨_,rfl⟩
 have c4:w.cell? ⟨gS,4,none⟩ = some (.slice (some ⟨gK,0,none⟩) n cK):=by rw [hn,← hky];exact h.c4
 have lS:=h.blk.lt
 have c0:w.cell? ⟨gS,0,none⟩ = some (.slice am nM cm):=by rw [hnM,← hm];exact h.c0
 have HC0:=hideT c0
 have HC4:=hideT c4
 have HKY:=hideT hk
 have HUW:=hideT (fun (Ky:List UInt8) (ab:Option Addr) (cb:Nat) (y:World) (hy:Below w.heap.size w y) (h1:Ky.length ≤ cb) (r:RowAt w ab Ky)=>unwrap_any master Ky am ab cm cb x0 x1 y h1 (hs.below hy) (rm.below hy) (r.below hy))
 rw [← hnM] at HUW
 rw [← hn] at hls ⊢
 have HN:=hideT hn
 clear hn hnM hs rm h hk hky hm c0
 go_enter Tryz.func29,Tryz.ntmps29
 go_upto_region 2 with (at_make;refine wpList_make_own _ rfl _ _ 42 rfl w.heap.size 3 i0 _ 1 Tryz.underlying42 hi0 hz0 hz1 .i64 .i64 _ n rfl rfl rfl (by rw [hz2];omega) (by unfold maxLen;omega) (Nat.le_refl _) ?_;intro w3 own3 gr3;have b3:=below_of_grown gr3;clear gr3)
 have c4x:=(b3.cell (p:=⟨gS,4,none⟩) lS).trans HC4.out
 go_wp2_with fail
 go_loopw [3,17] (fun v i wr=>∃ (k:Nat) (xs:List Value) (a:Option Addr) (c:Nat),k ≤ n ∧ i = .int .i64 (k:Int) ∧ v = .slice a k c ∧ Hid (wr.ownsRow w.heap.size 3 1 (.slice a k c) k xs) ∧ Below w.heap.size w wr) (fun _ i _=>n - (intOf i).toNat)
 case atStart=>exact ⟨0,[],some ⟨w.heap.size,0,none⟩,n,Nat.zero_le _,rfl,rfl,own3,b3⟩
 case round =>
   clear own3 b3 c4 c4x
   obtain ⟨k,xs,a,c,hk,rfl,rfl,HRO,hbel⟩:=hrel
   by_cases hlt:k < n
   · have hltI:(k:Int) < (n:Int):=by omega
     have hkL:k < ls.length:=by rw [← HN.out];exact hlt
     obtain ⟨aK,cKk,q1,q2,q3,q4⟩:=HKY.out k hkL
     obtain ⟨Ky,hK⟩:∃ q,q = (ls.getD k ([],[],0)).2.1:=⟨_,rfl⟩
     rw [← hK] at q1 q3 q4
     obtain ⟨nK,hnK⟩:∃ n,n = Ky.length:=⟨_,rfl⟩
     rw [← hnK] at q1
     have hlw:=World.block_lt_of_cell? w _ q1
     have HRG:Hid (wr.rangeAt gK (k * 2) [.slice aK nK cKk,.slice none 0 0]):=fun j u hu=>by
       cases j with
       | zero=>simp at hu;subst hu;exact (hbel.cell (p:=⟨gK,k * 2,none⟩) hlw).trans q1
       | succ j =>
         cases j with
         | zero=>simp at hu;subst hu;exact (hbel.cell (p:=⟨gK,k * 2 + 1,none⟩) hlw).trans q2
         | succ j=>simp at hu
     obtain ⟨gR,hgR⟩:∃ n,n = wr.heap.size:=⟨_,rfl⟩
     obtain ⟨W,hW⟩:∃ y,y = wr.alloc (Obj.cells #[.slice aK nK cKk,.slice none 0 0] 140):=⟨_,rfl⟩
     have bW:Below wr.heap.size wr W:=by rw [hW];exact below_newS _ _
     have kR:Blk W gR 140 [.slice aK nK cKk,.slice none 0 0]:=by rw [hW,hgR];exact Blk.new _ _ _
     have lgR:w.heap.size ≤ gR:=by rw [hgR];exact hbel.size
     have HW:=hideT hW
     have HGR:=hideT hgR
     have HQ:=hideT (And.intro q3 q4)
     have HNK:=hideT hnK
     clear hW hgR q1 q2 q3 q4 hK hnK hlw
     go_upto_region 5 with (refine wpList_load_mid rfl 140 _ rfl gK (k * 2) (by go_simp) [.slice aK nK cKk,.slice none 0 0] _ HRG.out Tryz.underlying140 rfl (by kernel_rfl) ?_)
     rw [← show W = _ from HW,← show gR = _ from HGR]
     clear HW
     obtain ⟨V,hV⟩:∃ V,V = World.drew W:=⟨_,rfl⟩
     have bWV:Below wr.heap.size wr V:=by rw [hV];exact bW.drew
     have kV:Blk V gR 140 [.slice aK nK cKk,.slice none 0 0]:=by rw [hV];exact kR
     have HBV:=hideT (hbel.trans (bWV.mono hbel.size))
     have hwV:w.heap.size ≤ V.heap.size:=HBV.out.size
     have HUN:=hideT (HUW.out Ky aK cKk V HBV.out HQ.out.1 HQ.out.2)
     rw [← HNK.out] at HUN
     obtain ⟨Cd,hCd⟩:∃ q,q = opCode master Ky:=⟨_,rfl⟩
     obtain ⟨Us,hUs⟩:∃ q,q = opU master Ky:=⟨_,rfl⟩
     obtain ⟨G,hG⟩:∃ q,q = opG master Ky:=⟨_,rfl⟩
     rw [← hCd,← hUs,← hG] at HUN
     clear hCd hUs hG
     have HROW:=HRO
     have keep:Hid (∀ {y},Below V.heap.size V y → y.cell? ⟨gS,0,none⟩ = some (.slice am nM cm) ∧ y.cell? ⟨gR,0,none⟩ = some (.slice aK nK cKk)):=fun hy=>⟨((HBV.out.trans (hy.mono hwV)).cell (p:=⟨gS,0,none⟩) lS).trans HC0.out,(kV.below hy kV.lt).cell 0 (by simp)⟩
     have KEEP:Hid (∀ (y:World),Below V.heap.size V y → ∀ (z:World),y.grownBy z (Value.slice a k c).ownBlock → (∀ j,(Value.slice a k c).ownBlock = some j → w.heap.size ≤ j) → z.cell? ⟨gS,0,none⟩ = some (.slice am nM cm) ∧ z.cell? ⟨gR,0,none⟩ = some (.slice aK nK cKk)):=fun y hy z gr hj=>by
       have k1:=keep.out hy
       refine ⟨?_,?_⟩
       · rw [World.cell?_of_block (gr.block gS (Nat.lt_of_lt_of_le lS (Nat.le_trans hwV hy.size)) (fun e=>by have:=hj gS e.symm;omega))];exact k1.1
       · have hl2:=(kV.below hy kV.lt).lt
         rw [World.cell?_of_block (gr.block gR hl2 (fun e=>by
           have h5:=(HRO.out.lt gR e.symm).2
           have h6:=HGR.out
           omega))];exact k1.2
     have b_0:Below V.heap.size V V:=Below.refl _ _
     have HV:=hideT hV
     clear hV kV kR bW HUW HKY
     refine wp_region_held_drew (S:=fun y=>y.cell? ⟨gS,0,none⟩ = some (.slice am nM cm) ∧ y.cell? ⟨gR,0,none⟩ = some (.slice aK nK cKk)) (by kernel_rfl) (by rw [← show V = _ from HV];exact keep.out b_0) (fun hHeld=>?_)
     rw [← show V = _ from HV] at hHeld ⊢
     clear HV
     refine tkA (i:=0) (v:=(.slice a k c)) rfl hHeld ?_
     try dsimp only [Act.put]
     refine tkA (i:=1) (v:=(.pointer (some ⟨gS,0,none⟩))) rfl hHeld ?_
     dsimp only [Act.put,List.getElem_toArray,List.getElem_cons_zero,List.getElem_cons_succ]
     simp only [List.setIfInBounds_toArray,List.set_cons_succ,List.set_cons_zero]
     refine tkA (i:=2) (v:=(.pointer (some ⟨gS,0,none⟩))) rfl hHeld ?_
     try dsimp only [Act.put]
     refine tkA (i:=3) (v:=(.pointer (some ⟨gS,0,none⟩))) rfl hHeld ?_
     dsimp only [Act.put,List.getElem_toArray,List.getElem_cons_zero,List.getElem_cons_succ]
     simp only [List.setIfInBounds_toArray,List.set_cons_succ,List.set_cons_zero]
     refine tkA (i:=4) (v:=(.pointer (some ⟨gS,0,none⟩))) rfl hHeld ?_
     try dsimp only [Act.put]
     refine tk (i:=5) (v:=(.slice am nM cm)) rfl (Or.inl ⟨by rfl,fun w1 h=>by have hc:=h.1;go_simp⟩) hHeld ?_
     dsimp only [Act.put,List.getElem_toArray,List.getElem_cons_zero,List.getElem_cons_succ]
     simp only [List.setIfInBounds_toArray,List.set_cons_succ,List.set_cons_zero]
     refine tkA (i:=6) (v:=(.pointer (some ⟨gR,0,none⟩))) rfl hHeld ?_
     try dsimp only [Act.put]
     refine tk (i:=7) (v:=(.slice aK nK cKk)) rfl (Or.inl ⟨by rfl,fun w1 h=>by have hc:=h.2;go_simp⟩) hHeld ?_
     dsimp only [Act.put,List.getElem_toArray,List.getElem_cons_zero,List.getElem_cons_succ]
     simp only [List.setIfInBounds_toArray,List.set_cons_succ,List.set_cons_zero]
     refine rdy1 8 (fun K hK=>?_)
     go_simp
     refine HUN.out.mono ?_
     rintro e U1 ⟨vU,rfl,ownU,bU1⟩
     obtain ⟨aU,cU,rfl,-⟩:=ownU.shape
     clear ownU
     obtain ⟨nU,hnU⟩:∃ n,n = (opKey master Ky).length:=⟨_,rfl⟩
     rw [← hnU]
     clear hnU
     go_wp2_with fail
     refine hK.out _ _ (keep.out bU1) (fun hHeld=>?_)
     clear hK K
     try dsimp only [Act.put]
     refine tk (i:=9) (v:=(.agg #[.int .i64 Us,.int .i64 G,.slice aU nU cU])) rfl (Or.inl ⟨by rfl,fun w1 _=>by have hc:=fldO Cd Us G aU nU cU w1;go_simp⟩) hHeld ?_
     try dsimp only [Act.put]
     refine tk (i:=10) (v:=(.int .i64 G)) rfl (Or.inl ⟨by rfl,fun w1 _=>by have hc:=fldK Us G aU nU cU w1;go_simp⟩) hHeld ?_
     dsimp only [Act.put,List.getElem_toArray,List.getElem_cons_zero,List.getElem_cons_succ]
     simp only [List.setIfInBounds_toArray,List.set_cons_succ,List.set_cons_zero]
     refine rdy1 11 (fun K hK=>?_)
     go_simp
     obtain ⟨U2,hU2⟩:∃ y,y = U1.alloc (Obj.cells #[.int .i64 G] 3):=⟨_,rfl⟩
     have kU2:Blk U2 U1.heap.size 3 [.int .i64 G]:=by rw [hU2];exact Blk.new _ _ _
     have bU2:Below V.heap.size V U2:=by rw [hU2];exact bU1.trans ((below_newS _ _).mono bU1.size)
     rw [← hU2]
     clear hU2
     refine hK.out _ _ (keep.out bU2) (fun hHeld=>?_)
     clear hK K
     try dsimp only [Act.put]
     refine rdy1 12 (fun K hK=>?_)
     have rowU:=own_sm (ts:=[]) HROW.out (Sm.below (bWV.trans (bU2.mono bWV.size))) (by simp)
     rw [if_pos (by rfl)]
     refine wp_append_In _ _ rfl w.heap.size (.slice a k c) k _ rfl rowU ⟨U1.heap.size,0,none⟩ 1 1 [.int .i64 G] rfl rfl (newsB kU2) (by intro u hu;simp at hu;rw [hu];rfl) (by unfold maxLen;omega) (by omega) (Nat.le_trans hwV bU2.size) ?_
     intro v3 U3 row3 gr3
     obtain ⟨a3,c3,rfl⟩:=ownS row3
     have bU3:=(HBV.out.trans (bU2.mono hwV)).grown gr3 (Nat.le_trans hwV bU2.size) (fun j hj=>(rowU.lt j hj).1)
     have K3:=KEEP.out U2 bU2 U3 gr3 (fun j hj=>(rowU.lt j hj).1)
     refine hK.out _ _ K3 (fun hHeld=>?_)
     clear hK K
     try dsimp only [Act.put]
     refine rdy1 13 (fun K hK=>?_)
     go_simp
     refine hK.out _ _ K3 (fun hHeld=>?_)
     clear hK K
     try dsimp only [Act.put]
     refine wpAnyH_done (by kernel_rfl) ?_ _
     clear hHeld
     have HF:=hideT (And.intro row3 bU3)
     clear row3 bU3 gr3 K3 keep KEEP
     go_wp2_with fail
     go_roundw
     case rel=>exact ⟨k + 1,_,a3,c3,by omega,by go_num,rfl,HF.out.1,HF.out.2⟩
     case measure=>simp [intOf];omega
   · obtain rfl:k = n:=by omega
     have hltI:¬ (k:Int) < (k:Int):=by omega
     go_wp2_with fail
     go_ret
     exact ⟨⟨a,c,rfl⟩,hbel⟩
end Go.Proofs.YtbkokcjolanpeaaGreatDoor
