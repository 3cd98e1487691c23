import Derived.Test.YtoajfbkblpaejaaGreatDoorTransDef
import Derived.Test.YtoajfbkblpaejaaGreatDoorGfD
namespace Go.Proofs.YtoajfbkblpaejaaGreatDoor
open Go.RowKit
theorem xorL_zer:∀ (l:List UInt8),xorL (List.replicate l.length 0) l = l:=by
 intro l
 induction l with
 | nil=>rfl
 | cons a l ih=>unfold xorL at ih ⊢;simp [List.replicate_succ,ih]
theorem nib_zeros (n:Nat):nibL (List.replicate n 0) = List.replicate (2 * n) 0:=by
 induction n with
 | zero=>rfl
 | succ n ih =>
   rw [List.replicate_succ,show 2 * (n + 1) = 2 * n + 1 + 1 from by omega,List.replicate_succ,List.replicate_succ,← ih]
   simp [nibL]
theorem ofN_inj16:∀ a:Nat,a < 16 → ∀ b:Nat,b < 16 → ofN a = ofN b → a = b:=by decide +kernel
theorem map_ofN_inj:∀ (a b:List Nat),(∀ d ∈ a,d < 16) → (∀ d ∈ b,d < 16) → a.map ofN = b.map ofN → a = b:=by
 intro a
 induction a with
 | nil=>intro b _ _ h;cases b with | nil=>rfl | cons x y=>simp at h
 | cons x y ih =>
   intro b ha hb h
   cases b with
   | nil=>simp at h
   | cons z t =>
     simp only [List.map_cons,List.cons.injEq] at h
     rw [ofN_inj16 x (ha x (by simp)) z (hb z (by simp)) h.1,ih t (fun d hd=>ha d (by simp [hd])) (fun d hd=>hb d (by simp [hd])) h.2]
theorem nib_block (es:List Nat) (he:es.length = 16) (hel:∀ d ∈ es,d < 16):nibL (blockN (wordH es)) = es:=by
 have h:=nib_eq (List.replicate 8 0) es (by simp) he hel
 have e1:xorL (List.replicate 8 0) (blockN (wordH es)) = blockN (wordH es):=by
   have:=xorL_zer (blockN (wordH es))
   rwa [blockN_length] at this
 have e2:xorL ((nibL (List.replicate 8 0)).map ofN) (es.map ofN) = es.map ofN:=by
   have:=xorL_zer (es.map ofN)
   rw [List.length_map,he] at this
   rw [nib_zeros,List.map_replicate]
   exact this
 rw [e1,e2] at h
 exact (map_ofN_inj _ _ hel (nibL_lt _) h).symm
theorem xorL_twice (a b:List UInt8) (h:a.length = b.length):xorL (xorL a b) b = a:=by
 induction a generalizing b with
 | nil=>rfl
 | cons x y ih =>
   cases b with
   | nil=>simp at h
   | cons z t =>
     have h2:=ih t (by simpa using h)
     unfold xorL at h2 ⊢
     simp only [List.zipWith_cons_cons,h2,List.cons.injEq,and_true]
     rw [UInt8.xor_assoc,UInt8.xor_self,UInt8.xor_zero]
theorem readD_pinL (f:Nat) (pin pan:ByteArray) (draws:List UInt8) (hf:f < 16) (h12:pin.size ≤ 12) (hd:f = 3 → 14 - pin.size ≤ draws.length) (hp:digs pin = true):readD (pinL f pin pan draws) pan = pinN f pin draws:=by
 unfold readD pinL
 rw [xorL_twice _ _ (by rw [blockN_length,blockN_length]),nib_block _ (pinN_length _ _ _ h12 hd) (pinN_lt _ _ _ hf h12 hp)]
theorem pinD_pinN (f:Nat) (pin:ByteArray) (draws:List UInt8):pinD (pinN f pin draws) = pin.data.toList.map pdigN ∧ fillD (pinN f pin draws) = fillN f pin draws:=by
 have hl:(pin.data.toList.map pdigN).length = pin.size:=by rw [List.length_map];rfl
 unfold pinD fillD pinN
 show ((pin.data.toList.map pdigN ++ fillN f pin draws).take pin.size = _) ∧ ((pin.data.toList.map pdigN ++ fillN f pin draws).drop pin.size = _)
 exact ⟨by rw [← hl];exact List.take_left,by rw [← hl];exact List.drop_left⟩
theorem fillN_ok (f:Nat) (pin:ByteArray) (draws:List UInt8):(fillN f pin draws).all (fillOK f) = true:=by
 rw [List.all_eq_true]
 intro d hd
 unfold fillN at hd
 split at hd
 · rename_i h3
   obtain ⟨b,-,rfl⟩:=List.mem_map.1 hd
   subst h3
   unfold fillOK
   simp
 · have:=List.eq_of_mem_replicate hd
   unfold fillOK
   simp [this]
theorem digs_lt (pin:ByteArray) (hp:digs pin = true):(pin.data.toList.map pdigN).all (fun d=>decide (d < 10)) = true:=by
 rw [List.all_eq_true]
 intro d hd
 obtain ⟨b,hb,rfl⟩:=List.mem_map.1 hd
 unfold digs at hp
 rw [List.all_eq_true] at hp
 have:=dig_to (hp b hb)
 unfold pdigN
 simp only [decide_eq_true_eq]
 omega
theorem text_pin (pin:ByteArray) (hp:digs pin = true):textOf (pin.data.toList.map pdigN) = pin:=by
 unfold textOf
 rw [digs_text pin hp]
theorem read_made (f:Nat) (pin pan:ByteArray) (draws:List UInt8) (hg:goodPin f pin pan = true) (hd:f = 3 → 14 - pin.size ≤ draws.length) :
   readOK f (mkL f pin pan draws) pan = true ∧ textOf (pinD (readD (mkL f pin pan draws) pan)) = pin ∧ (∀ g:Nat,g ≠ f → readOK g (mkL f pin pan draws) pan = false):=by
 obtain ⟨hf,h4,h12,hp,h13,h19,hq⟩:=good_parts hg
 have e:mkL f pin pan draws = pinL f pin pan draws:=by
   unfold mkL
   rw [if_pos hg,if_neg (by rintro ⟨h,h2⟩;have:=hd (by omega);omega)]
   rfl
 have hr:=readD_pinL f pin pan draws (by omega) h12 hd hp
 have h0:(pinN f pin draws).getD 0 0 = f:=rfl
 have h1:(pinN f pin draws).getD 1 0 = pin.size:=rfl
 rw [e,hr,(pinD_pinN f pin draws).1,text_pin pin hp]
 refine ⟨?_,rfl,fun g hgf=>?_⟩
 · unfold readOK clearOK
   rw [hr,Int.toNat_natCast,h0,h1,(pinD_pinN f pin draws).1,(pinD_pinN f pin draws).2,fillN_ok,digs_lt pin hp,pinL_length]
   have hf':(decide ((f:Int) = 0) || decide ((f:Int) = 3)) = true:=by simpa using hf
   rw [hf']
   simp [h4,h12,h13,h19,hq]
 · unfold readOK clearOK
   rw [hr,Int.toNat_natCast,h0,decide_eq_false (show ¬ f = g from fun h=>hgf h.symm)]
   simp
theorem conv_text (A:List UInt8) (ao:Option Addr) (n c:Nat) (w:World) (hn:A.length = n) (h:RowAt w ao A):(convert 22 9 (.slice ao n c)).run Tryz.prog w = .ok (.string ⟨A.toArray⟩) w:=conv_any A ao n c w hn h
set_option maxRecDepth 100000 in
set_option maxHeartbeats 2000000 in
theorem text_any (R:Nat) (ao:Option Addr) (cap:Nat) (code:List UInt8) (i m:Nat) (w:World) (hn:code.length ≤ 1048576) (hi:i ≤ code.length) (hm:m ≤ 1000) (hRw:R < w.heap.size) (hne:code ≠ [] → ∀ a,ao = some a → a.block ≠ R) (hr:RowAt w ao code) (hR:Rd w R ao cap code i) :
   Calls Tryz.prog 97 #[.pointer (some ⟨R,0,none⟩),.int .i64 (m:Int)] w fun e w'=>∃ (s:ByteArray) (i':Nat),e = .returned (.string s) ∧ s.size = m ∧ digs s = true ∧ i' ≤ code.length ∧ Rd w' R ao cap code i' ∧ w.grownBy w' (some R):=by
 obtain ⟨i0,hi0,hz0,hz1,hz2⟩:=info_parts Tryz.info5
 have HN:=hide (fun (i:Nat) (wx:World) (h1:i ≤ code.length) (h2:RowAt wx ao code) (h3:Rd wx R ao cap code i)=>next_any R ao cap code i wx hn h1 h2 h3)
 have HR0:=hide hR
 have Hr:=hide hr
 have Hne:=hide hne
 clear hR hr hne
 go_enter Tryz.func97,Tryz.ntmps97
 go_wp2_with fail
 go_loopw [1,5] (fun k v wr=>∃ (j:Nat) (l:List UInt8) (i':Nat),j ≤ m ∧ k = .int .i64 ((m - j:Nat):Int) ∧ l.length = j ∧ l.all dig = true ∧ OwnB wr w.heap.size v l ∧ i' ≤ code.length ∧ Rd wr R ao cap code i' ∧ w.grownBy wr (some R)) (fun k _ _=>(intOf k).toNat)
 case atStart=>exact ⟨0,[],i,by omega,by simp,rfl,rfl,World.ownsRow_nil _ _ _ _,hi,HR0.out,⟨rfl,rfl,rfl,Nat.le_refl _,fun _ _ _=>rfl⟩⟩
 case round =>
   obtain ⟨j,l,i',hj,rfl,hl,hdg,hown,hi',hR,hg⟩:=hrel
   have HR:=hide hR
   have Hg:=hide hg
   have hgs:=hg.size
   clear hR hg
   obtain ⟨ao6,c6,hv6,rw6,-,-,-⟩:=hown.own.shape
   rw [hl] at hv6
   subst hv6
   by_cases hlt:j < m
   · obtain ⟨q,hq⟩:∃ q,q = m - j:=⟨_,rfl⟩
     have HQ:=hide hq
     have hq0:0 < q:=by omega
     have hq1:q ≤ 1000:=by omega
     rw [← hq]
     clear hq rw6
     have hrow:RowAt wr ao code:=row_keep Hr.out Hg.out Hne.out
     go_wp2_with fail
     refine (HN.out i' wr hi' hrow HR.out).mono ?_
     rintro e w1 ⟨c,i2,rfl,hc,hi2,hR1,hg1,hs1⟩
     have own1:=World.ownsRow.kept (own_num hown hl) hg1 (by
       cases hb:(Value.slice ao6 j c6).ownBlock with
       | none=>exact .inl rfl
       | some b=>right;intro h;injection h with h;have:=((own_num hown hl).lt b hb).1;omega)
     have HR1:=hide hR1
     have HG1:=hide (grown_trans Hg.out hg1)
     have HS1:=hide hs1
     have hs1':w.heap.size ≤ w1.heap.size:=by omega
     obtain ⟨d,hd⟩:∃ d:Nat,d = c % 10:=⟨_,rfl⟩
     have hd10:d < 10:=by omega
     have hcm:(c:Int) % 10 = (d:Int):=by omega
     have hcm2:(c:Int).tmod 10 = (d:Int):=by rw [Int.tmod_eq_emod_of_nonneg (by omega)];exact hcm
     have hdm:(48 + (d:Int)) % 256 = 48 + (d:Int):=by omega
     clear hR1 hg1 hs1 hown hrow hd
     go_wp2_with (at_builtin;refine wpList_append_own_at _ rfl _ _ 22 rfl w.heap.size 5 i0 (.int .u8 0) 1 1 Tryz.underlying22 hi0 hz0 hz1 hz2 rfl (by decide) _ _ _ rfl (own1.alloc _) ⟨w1.heap.size,0,none⟩ 1 1 [.int .u8 (48 + (d:Int))] rfl rfl (cell_one_new _ _ _) (by intro u hu;simp at hu;subst hu;rfl) (by unfold maxLen;omega) (by omega) (by simp;omega) ?_;intro v7 w7 hown7 hgrow7 hnil7 hat7)
     have hneR:(Value.slice ao6 j c6).ownBlock ≠ some R:=by
       intro h
       have:=(own1.lt R h).1
       omega
     have R1:OwnB w7 w.heap.size v7 (l ++ [UInt8.ofNat (48 + d)]):=by
       unfold OwnB
       rw [List.length_append,hl,List.map_append,List.map_cons,List.map_nil,show byte (UInt8.ofNat (48 + d)) = .int .u8 (48 + (d:Int)) from (by unfold byte;rw [UInt8.toNat_ofNat',Nat.mod_eq_of_lt (by omega)];congr 1)]
       exact hown7
     have R2:Rd w7 R ao cap code i2:=Blk.grown (Blk.alloc HR1.out _) hgrow7 (fun h=>hneR h.symm)
     have R3:w.grownBy w7 (some R):=by
       have h1:=HG1.out
       refine ⟨hgrow7.os.trans h1.os,hgrow7.tape.trans h1.tape,hgrow7.output.trans h1.output,Nat.le_trans h1.size (Nat.le_trans (by simp) hgrow7.size),fun k hk hkR=>?_⟩
       rw [hgrow7.block k (by simp;omega) (fun h=>by have:=(own1.lt k h.symm).1;omega)]
       rw [heap_alloc_old w1 _ (by omega)]
       exact h1.block k hk hkR
     have R4:(l ++ [UInt8.ofNat (48 + d)]).all dig = true:=by
       rw [List.all_append,hdg]
       simp only [List.all_cons,List.all_nil,Bool.and_true,Bool.true_and,dig]
       rw [UInt8.toNat_ofNat',Nat.mod_eq_of_lt (by omega)]
       simp only [Bool.and_eq_true,decide_eq_true_eq]
       omega
     clear hown7 hgrow7 hnil7 hat7 own1 hdg
     go_roundw
     case rel=>exact ⟨j + 1,l ++ [UInt8.ofNat (48 + d)],i2,by omega,by rw [show ((m - (j + 1):Nat):Int) = (q:Int) - 1 from (by have:=HQ.out;omega)],by rw [List.length_append,hl];rfl,R4,R1,hi2,R2,R3⟩
     case measure=>have:=HQ.out;simp [intOf];omega
   · have hjm:j = m:=by omega
     subst hjm
     rw [Nat.sub_self]
     have hcv:=conv_text l ao6 j c6 wr hl rw6
     go_wp2_with fail
     go_ret
     exact ⟨_,i',rfl,by show l.toArray.size = _;simpa using hl,by show l.toArray.toList.all dig = true;simpa using hdg,hi',HR.out,Hg.out⟩
set_option maxRecDepth 100000 in
set_option maxHeartbeats 1000000 in
theorem pan_any (R:Nat) (ao:Option Addr) (cap:Nat) (code:List UInt8) (i:Nat) (w:World) (hn:code.length ≤ 1048576) (hi:i ≤ code.length) (_hRw:R < w.heap.size) (hne:code ≠ [] → ∀ a,ao = some a → a.block ≠ R) (hr:RowAt w ao code) (hR:Rd w R ao cap code i) :
   Calls Tryz.prog 58 #[.pointer (some ⟨R,0,none⟩)] w fun e w'=>∃ (s:ByteArray) (i':Nat),e = .returned (.string s) ∧ 13 ≤ s.size ∧ s.size ≤ 19 ∧ digs s = true ∧ i' ≤ code.length ∧ Rd w' R ao cap code i' ∧ w.grownBy w' (some R):=by
 have HN:=hide (next_any R ao cap code i w hn hi hr hR)
 have HT:=hide (fun (j m:Nat) (wx:World) (h1:j ≤ code.length) (h0:m ≤ 1000) (h4:R < wx.heap.size) (h2:RowAt wx ao code) (h3:Rd wx R ao cap code j)=>text_any R ao cap code j m wx hn h1 h0 h4 hne h2 h3)
 have Hr:=hide hr
 have Hne:=hide hne
 clear hr hR hne
 go_enter Tryz.func58,Tryz.ntmps58
 go_wp2_with fail
 refine HN.out.mono ?_
 rintro e w1 ⟨c,i2,rfl,hc,hi2,hR1,hg1,hs1⟩
 obtain ⟨d,hd⟩:∃ d:Nat,d = c % 7:=⟨_,rfl⟩
 have hd2:d < 7:=by omega
 have hcm:(c:Int) % 7 = (d:Int):=by omega
 have hcm2:(c:Int).tmod 7 = (d:Int):=by rw [Int.tmod_eq_emod_of_nonneg (by omega)];exact hcm
 have hrow:=row_keep Hr.out hg1 Hne.out
 have hR1':=hide hR1
 have HG1:=hide hg1
 have HRs:Hid (R < w1.heap.size):=Blk.lt hR1
 obtain ⟨m,hm⟩:∃ m:Nat,m = 13 + d:=⟨_,rfl⟩
 have hmI:(13:Int) + (d:Int) = (m:Int):=by omega
 have HM:=hide hm
 clear hd hR1 hg1 hs1 hm
 go_wp2_with fail
 refine (HT.out i2 m w1 hi2 (by have:=HM.out;omega) HRs.out hrow hR1'.out).mono ?_
 rintro e w2 ⟨s,i3,rfl,hs,hdg,hi3,hR2,hg2⟩
 have h2:=hide hR2
 have h3:=hide (grown_trans HG1.out hg2)
 clear hR2 hg2
 go_wp2_with fail
 go_ret
 exact ⟨s,i3,rfl,by have:=HM.out;omega,by have:=HM.out;omega,hdg,hi3,h2.out,h3.out⟩
set_option maxRecDepth 100000 in
set_option maxHeartbeats 1000000 in
theorem pin_any (R:Nat) (ao:Option Addr) (cap:Nat) (code:List UInt8) (i:Nat) (w:World) (hn:code.length ≤ 1048576) (hi:i ≤ code.length) (_hRw:R < w.heap.size) (hne:code ≠ [] → ∀ a,ao = some a → a.block ≠ R) (hr:RowAt w ao code) (hR:Rd w R ao cap code i) :
   Calls Tryz.prog 56 #[.pointer (some ⟨R,0,none⟩)] w fun e w'=>∃ (s:ByteArray) (i':Nat),e = .returned (.string s) ∧ 4 ≤ s.size ∧ s.size ≤ 12 ∧ digs s = true ∧ i' ≤ code.length ∧ Rd w' R ao cap code i' ∧ w.grownBy w' (some R):=by
 have HN:=hide (next_any R ao cap code i w hn hi hr hR)
 have HT:=hide (fun (j m:Nat) (wx:World) (h1:j ≤ code.length) (h0:m ≤ 1000) (h4:R < wx.heap.size) (h2:RowAt wx ao code) (h3:Rd wx R ao cap code j)=>text_any R ao cap code j m wx hn h1 h0 h4 hne h2 h3)
 have Hr:=hide hr
 have Hne:=hide hne
 clear hr hR hne
 go_enter Tryz.func56,Tryz.ntmps56
 go_wp2_with fail
 refine HN.out.mono ?_
 rintro e w1 ⟨c,i2,rfl,hc,hi2,hR1,hg1,hs1⟩
 obtain ⟨d,hd⟩:∃ d:Nat,d = c % 9:=⟨_,rfl⟩
 have hd2:d < 9:=by omega
 have hcm:(c:Int) % 9 = (d:Int):=by omega
 have hcm2:(c:Int).tmod 9 = (d:Int):=by rw [Int.tmod_eq_emod_of_nonneg (by omega)];exact hcm
 have hrow:=row_keep Hr.out hg1 Hne.out
 have hR1':=hide hR1
 have HG1:=hide hg1
 have HRs:Hid (R < w1.heap.size):=Blk.lt hR1
 obtain ⟨m,hm⟩:∃ m:Nat,m = 4 + d:=⟨_,rfl⟩
 have hmI:(4:Int) + (d:Int) = (m:Int):=by omega
 have HM:=hide hm
 clear hd hR1 hg1 hs1 hm
 go_wp2_with fail
 refine (HT.out i2 m w1 hi2 (by have:=HM.out;omega) HRs.out hrow hR1'.out).mono ?_
 rintro e w2 ⟨s,i3,rfl,hs,hdg,hi3,hR2,hg2⟩
 have h2:=hide hR2
 have h3:=hide (grown_trans HG1.out hg2)
 clear hR2 hg2
 go_wp2_with fail
 go_ret
 exact ⟨s,i3,rfl,by have:=HM.out;omega,by have:=HM.out;omega,hdg,hi3,h2.out,h3.out⟩
set_option maxRecDepth 100000 in
set_option maxHeartbeats 1000000 in
theorem format_any (R:Nat) (ao:Option Addr) (cap:Nat) (code:List UInt8) (i:Nat) (w:World) (hn:code.length ≤ 1048576) (hi:i ≤ code.length) (hr:RowAt w ao code) (hR:Rd w R ao cap code i) :
   Calls Tryz.prog 57 #[.pointer (some ⟨R,0,none⟩)] w fun e w'=>∃ (f i':Nat),e = .returned (.int .i64 (f:Int)) ∧ (f = 0 ∨ f = 3) ∧ i' ≤ code.length ∧ Rd w' R ao cap code i' ∧ w.grownBy w' (some R):=by
 have HN:=hide (next_any R ao cap code i w hn hi hr hR)
 clear hr hR
 go_enter Tryz.func57,Tryz.ntmps57
 go_wp2_with fail
 refine HN.out.mono ?_
 rintro e w1 ⟨c,i2,rfl,hc,hi2,hR1,hg1,hs1⟩
 have h2:=hide hR1
 have h3:=hide hg1
 clear hR1 hg1 hs1
 by_cases hd:c % 2 = 0
 · have hcm:(c:Int) % 2 = 0:=by omega
   have hcm2:(c:Int).tmod 2 = 0:=by rw [Int.tmod_eq_emod_of_nonneg (by omega)];exact hcm
   go_wp2_with fail
   go_ret
   exact ⟨0,i2,rfl,.inl rfl,hi2,h2.out,h3.out⟩
 · have hcm:(c:Int) % 2 = 1:=by omega
   have hcm2:(c:Int).tmod 2 = 1:=by rw [Int.tmod_eq_emod_of_nonneg (by omega)];exact hcm
   go_wp2_with fail
   go_ret
   exact ⟨3,i2,rfl,.inr rfl,hi2,h2.out,h3.out⟩
def masterL:List UInt8:=[48,49,50,51,52,53,54,55,56,57,109,97,115,116,101,114]
set_option maxRecDepth 100000 in
set_option maxHeartbeats 1000000 in
theorem master_any (w:World):Calls Tryz.prog 24 #[] w fun e w'=>∃ g,e = .returned (.slice (some ⟨g,0,none⟩) 16 16) ∧ w.heap.size ≤ g ∧ g < w'.heap.size ∧ RowAt w' (some ⟨g,0,none⟩) masterL ∧ Below w.heap.size w w':=by
 have kc:=fun (w:World) (C:Array Value) (n c:Nat)=>Lib.run_convert_bytes_const (P:=Tryz.prog) w 22 5 C n c Tryz.underlying22 Tryz.underlying5
 have hrow:=fun (fr:Nat × Nat)=>row_marked w masterL 5 fr
 have hb:=fun (o:Obj)=>below_new w o
 go_enter Tryz.func24,Tryz.ntmps24
 go_wp2_with fail
 go_ret
 exact ⟨w.heap.size,rfl,Nat.le_refl _,by simp,hrow _,hb _⟩
theorem row_gr {x y:World} {R g:Nat} {l:List UInt8} (h:RowAt x (some ⟨g,0,none⟩) l) (hg:x.grownBy y (some R)) (hne:R < g):RowAt y (some ⟨g,0,none⟩) l :=
 h.grown hg (by intro a ha hc;cases ha;have:=Option.some.inj hc;simp only at this;omega)
theorem gr_new {w V w3:World} {r:Option Nat} {g:Nat} (h:w.grownBy V r) (k:V.grownBy w3 (some g)) (hg:w.heap.size ≤ g):w.grownBy w3 r :=
 ⟨k.os.trans h.os,k.tape.trans h.tape,k.output.trans h.output,Nat.le_trans h.size k.size,fun i hi hr=>(k.block i (Nat.lt_of_lt_of_le hi h.size) (by intro e;cases e;omega)).trans (h.block i hi hr)⟩
theorem gr_set (w:World) (a:Addr) (v:Value):w.grownBy (w.setCell a v) (some a.block) :=
 ⟨rfl,rfl,rfl,by simp,fun k _ hk=>heap_setCell_other _ a k _ (fun e=>hk (by simp [e]))⟩
abbrev zeroK3:List Value:=[.int .i64 0,.int .i64 0,.slice none 0 0]
theorem Tryz.zeroK3:(Tryz.prog.info? 31).map (fun i=>(i.zero,i.size)) = some (some (.agg zeroK3.toArray),3):=by kernel_rfl
abbrev emptyT:ByteArray:=⟨#[]⟩
abbrev zeroO8:List Value:=[.slice none 0 0,.int .i64 0,.slice none 0 0,.slice none 0 0,.int .i64 0,.slice none 0 0,.string emptyT,.slice none 0 0]
theorem Tryz.zeroO8:(Tryz.prog.info? 24).map (fun i=>(i.zero,i.size)) = some (some (.agg zeroO8.toArray),8):=by kernel_rfl
set_option maxRecDepth 100000 in
set_option maxHeartbeats 2000000 in
theorem key_draw (R:Nat) (ao:Option Addr) (cap:Nat) (code:List UInt8) (i:Nat) (use:Int) (w:World) (hn:code.length ≤ 1048576) (hi:i ≤ code.length) (hRw:R < w.heap.size) (hne:code ≠ [] → ∀ a,ao = some a → a.block ≠ R) (hr:RowAt w ao code) (hR:Rd w R ao cap code i) :
   Calls Tryz.prog 60 #[.pointer (some ⟨R,0,none⟩),.int .i64 use] w fun e w'=>∃ (gen g c:Nat) (l:List UInt8) (i':Nat),e = .returned (.agg #[.int .i64 use,.int .i64 (gen:Int),.slice (some ⟨g,0,none⟩) 16 c]) ∧ gen ≤ 255 ∧ l.length = 16 ∧ 16 ≤ c ∧ w.heap.size ≤ g ∧ RowAt w' (some ⟨g,0,none⟩) l ∧ i' ≤ code.length ∧ Rd w' R ao cap code i' ∧ w.grownBy w' (some R):=by
 have hz:=(zero_of_info Tryz.zeroK3).1
 obtain ⟨W,hW⟩:∃ W,W = w.alloc (.cells zeroK3.toArray 31):=⟨_,rfl⟩
 have kW:Blk W w.heap.size 31 zeroK3:=by rw [hW];exact Blk.new w _ _
 have bW:Below w.heap.size w W:=by rw [hW];exact below_new _ _
 have hRW:Rd W R ao cap code i:=Blk.below hR bW hRw
 have Hrow:=hide (fun (wx:World) (h:w.grownBy wx (some R))=>(row_keep hr h hne:RowAt wx ao code))
 have HN:=hide (next_any R ao cap code i W hn hi (hr.below bW) hRW)
 have HS:=hide (fun (j:Nat) (wx:World) (h1:j ≤ code.length) (h4:R < wx.heap.size) (h2:RowAt wx ao code) (h3:Rd wx R ao cap code j)=>some_any R ao cap code j 16 wx hn h1 (by omega) h4 hne h2 h3)
 have HG0:=hide (grown_of_below bW (some R))
 clear hr hR hne bW hRW
 go_enter Tryz.func60,Tryz.ntmps60
 go_wp2_with fail
 rw [← hW]
 clear hW
 refine HN.out.mono ?_
 rintro e w1 ⟨c,i2,rfl,hc,hi2,hR1,hg1,hs1⟩
 have kW1:=kW.grown hg1 (by simp only [ne_eq,Option.some.injEq];omega)
 have HG1:=hide (grown_trans HG0.out hg1)
 have lW:=kW1.lt
 obtain ⟨gen,hgen⟩:∃ gen:Nat,gen = if c > 200 then c else c % 4:=⟨_,rfl⟩
 have hgl:gen ≤ 255:=by rw [hgen];split <;> omega
 obtain ⟨W1,hW1⟩:∃ x,x = w1.alloc (.cells #[.int .i64 use,.int .i64 (gen:Int),.slice none 0 0] 31):=⟨_,rfl⟩
 have kK:Blk W1 w1.heap.size 31 [.int .i64 use,.int .i64 (gen:Int),.slice none 0 0]:=by rw [hW1];exact Blk.new _ _ _
 have b1:Below w1.heap.size w1 W1:=by rw [hW1];exact below_new _ _
 have hRW1:Rd W1 R ao cap code i2:=Blk.below hR1 b1 (Blk.lt hR1)
 have kWW:=kW1.below b1 lW
 have HG2:=hide (grown_trans HG1.out (grown_of_below b1 (some R)))
 have HR1:=hide hRW1
 obtain ⟨gK,hgK⟩:∃ x,x = w1.heap.size:=⟨_,rfl⟩
 rw [← hgK] at kK lW
 have HgK:=hide hgK
 have lK:=kK.lt
 have HW1:=hide hW1
 clear hR1 hg1 hs1 kW kW1 b1 hRW1 hgK hW1
 by_cases h200:c > 200
 · rw [if_pos h200] at hgen
   have hcI:(200:Int) < (c:Int):=by omega
   subst hgen
   have hcm2:(gen:Int).tmod 4 = ((gen % 4:Nat):Int):=by rw [Int.tmod_eq_emod_of_nonneg (by omega)];omega
   go_upto_region 5 with fail
   rw [← show W1 = _ from HW1,← show gK = _ from HgK]
   clear HW1 HgK hcI hcm2
   go_wp2_with fail
   refine (HS.out i2 W1 hi2 (Blk.lt HR1.out) (Hrow.out W1 HG2.out) HR1.out).mono ?_
   rintro e w2 ⟨v2,l,i3,rfl,hl,own2,hi3,hR2,hg2⟩
   obtain ⟨g,cc,hcc,rfl,row2,hlo,-⟩:=own2.own.at' hl (by omega)
   have kK2:=kK.grown hg2 (by simp only [ne_eq,Option.some.injEq];omega)
   have kW2:=kWW.grown hg2 (by simp only [ne_eq,Option.some.injEq];omega)
   have HG3:=hide (grown_trans HG2.out hg2)
   have cz:=kK2.cell 2 (by simp)
   have fz:=kK2.free 2
   have HRow:=hide (row_of row2)
   have HRd:=hide hR2
   have hsz:=hg2.size
   clear own2 hg2 hR2 row2 kK kWW
   go_upto_region 6 with fail
   obtain ⟨V,hV⟩:∃ x,x = World.setCell w2 ⟨gK,2,none⟩ (.slice (some ⟨g,0,none⟩) 16 cc):=⟨_,rfl⟩
   rw [← hV]
   have gs:w2.grownBy V (some gK):=by rw [hV];exact gr_set _ _ _
   have kKV:Blk V gK 31 [.int .i64 use,.int .i64 (gen:Int),.slice (some ⟨g,0,none⟩) 16 cc]:=by rw [hV];exact kK2.set 2 _
   have kWV:=kW2.grown gs (by simp only [ne_eq,Option.some.injEq];omega)
   have rV:=hide (row_gr HRow.out gs (by omega))
   have RdV:Hid (Rd V R ao cap code i3):=Blk.grown HRd.out gs (by simp only [ne_eq,Option.some.injEq];omega)
   have GV:=hide (gr_new HG3.out gs (by omega))
   clear hV gs cz fz kK2 kW2
   go_wp2_with (first
     | (refine load_blk rfl 31 _ rfl gK rfl kKV Tryz.underlying31 rfl (by kernel_rfl) ?_)
     | (refine store_blk rfl 31 _ _ rfl w.heap.size rfl rfl kWV (by kernel_rfl) rfl (by kernel_rfl) ?_;intro w7 hb7 hg7 hs7))
   exact ⟨rfl,_,results_blk Tryz.results60 _ _ rfl hb7 Tryz.underlying31 rfl (by kernel_rfl),⟨gen,g,cc,l,i3,rfl,hgl,hl,hcc,by omega,row_gr rV.out hg7 (by omega),hi3,Blk.grown RdV.out hg7 (by simp only [ne_eq,Option.some.injEq];omega),gr_new GV.out hg7 (Nat.le_refl _)⟩⟩
 · rw [if_neg h200] at hgen
   have hcI:¬ ((200:Int) < (c:Int)):=by omega
   have hcm:(c:Int) % 4 = (gen:Int):=by omega
   have hcm2:(c:Int).tmod 4 = (gen:Int):=by rw [Int.tmod_eq_emod_of_nonneg (by omega)];exact hcm
   clear hgen
   go_upto_region 5 with fail
   rw [← show W1 = _ from HW1,← show gK = _ from HgK]
   clear HW1 HgK hcI hcm hcm2
   go_wp2_with fail
   refine (HS.out i2 W1 hi2 (Blk.lt HR1.out) (Hrow.out W1 HG2.out) HR1.out).mono ?_
   rintro e w2 ⟨v2,l,i3,rfl,hl,own2,hi3,hR2,hg2⟩
   obtain ⟨g,cc,hcc,rfl,row2,hlo,-⟩:=own2.own.at' hl (by omega)
   have kK2:=kK.grown hg2 (by simp only [ne_eq,Option.some.injEq];omega)
   have kW2:=kWW.grown hg2 (by simp only [ne_eq,Option.some.injEq];omega)
   have HG3:=hide (grown_trans HG2.out hg2)
   have cz:=kK2.cell 2 (by simp)
   have fz:=kK2.free 2
   have HRow:=hide (row_of row2)
   have HRd:=hide hR2
   have hsz:=hg2.size
   clear own2 hg2 hR2 row2 kK kWW
   go_upto_region 6 with fail
   obtain ⟨V,hV⟩:∃ x,x = World.setCell w2 ⟨gK,2,none⟩ (.slice (some ⟨g,0,none⟩) 16 cc):=⟨_,rfl⟩
   rw [← hV]
   have gs:w2.grownBy V (some gK):=by rw [hV];exact gr_set _ _ _
   have kKV:Blk V gK 31 [.int .i64 use,.int .i64 (gen:Int),.slice (some ⟨g,0,none⟩) 16 cc]:=by rw [hV];exact kK2.set 2 _
   have kWV:=kW2.grown gs (by simp only [ne_eq,Option.some.injEq];omega)
   have rV:=hide (row_gr HRow.out gs (by omega))
   have RdV:Hid (Rd V R ao cap code i3):=Blk.grown HRd.out gs (by simp only [ne_eq,Option.some.injEq];omega)
   have GV:=hide (gr_new HG3.out gs (by omega))
   clear hV gs cz fz kK2 kW2
   go_wp2_with (first
     | (refine load_blk rfl 31 _ rfl gK rfl kKV Tryz.underlying31 rfl (by kernel_rfl) ?_)
     | (refine store_blk rfl 31 _ _ rfl w.heap.size rfl rfl kWV (by kernel_rfl) rfl (by kernel_rfl) ?_;intro w7 hb7 hg7 hs7))
   exact ⟨rfl,_,results_blk Tryz.results60 _ _ rfl hb7 Tryz.underlying31 rfl (by kernel_rfl),⟨gen,g,cc,l,i3,rfl,hgl,hl,hcc,by omega,row_gr rV.out hg7 (by omega),hi3,Blk.grown RdV.out hg7 (by simp only [ne_eq,Option.some.injEq];omega),gr_new GV.out hg7 (Nat.le_refl _)⟩⟩
structure Drawn (x:World) (lo:Nat) (v:Value) (pin:ByteArray):Prop where
 ex:∃ (fk tk ks d1 dr:List UInt8) (use gf gt ff tf:Nat) (pan:ByteArray) (ak:Option Addr) (g1 c1 ck g3 c3 g5 c5 g7 c7:Nat),
   v = .agg #[.slice (some ⟨g1,0,none⟩) 36 c1,.int .i64 (ff:Int),.slice ak ks.length ck,.slice (some ⟨g3,0,none⟩) 36 c3,.int .i64 (tf:Int),.slice (some ⟨g5,0,none⟩) 8 c5,.string pan,.slice (some ⟨g7,0,none⟩) 10 c7] ∧
   (fk.length = 16 ∧ tk.length = 16 ∧ d1.length = 10 ∧ dr.length = 10) ∧ ((use = 1 ∧ ks = []) ∨ (use = 3 ∧ ks.length = 10)) ∧ (gf ≤ 255 ∧ gt ≤ 255) ∧ (ff = 0 ∨ ff = 3) ∧ (tf = 0 ∨ tf = 3) ∧
   (4 ≤ pin.size ∧ pin.size ≤ 12 ∧ digs pin = true) ∧ (13 ≤ pan.size ∧ pan.size ≤ 19 ∧ digs pan = true) ∧ (36 ≤ c1 ∧ ks.length ≤ ck ∧ 36 ≤ c3 ∧ 8 ≤ c5 ∧ 10 ≤ c7) ∧ (lo ≤ g1 ∧ lo ≤ g3 ∧ lo ≤ g5 ∧ lo ≤ g7 ∧ ∀ a,ak = some a → lo ≤ a.block) ∧
   RowAt x (some ⟨g1,0,none⟩) (wrapL masterL fk (use:Int) (gf:Int)) ∧ RowAt x ak ks ∧ RowAt x (some ⟨g3,0,none⟩) (wrapL masterL tk 1 (gt:Int)) ∧
   RowAt x (some ⟨g5,0,none⟩) (tdeaL (if use = 3 then variantL (keyL fk ks) 1 else fk) (mkL (ff:Int) pin pan d1) false) ∧ RowAt x (some ⟨g7,0,none⟩) dr
theorem wrap36 (master key:List UInt8) (u gen:Int) (h:okW master key u gen):(wrapL master key u gen).length = 36:=by
 unfold wrapL
 rw [if_pos h]
 exact wrapN_length _ _ _ _ h.1
theorem goodPin_of {f:Nat} {pin pan:ByteArray} (hf:f = 0 ∨ f = 3) (h4:4 ≤ pin.size) (h12:pin.size ≤ 12) (hd:digs pin = true) (h13:13 ≤ pan.size) (h19:pan.size ≤ 19) (hq:digs pan = true):goodPin (f:Int) pin pan = true:=by
 unfold goodPin
 have hf':(decide ((f:Int) = 0) || decide ((f:Int) = 3)) = true:=by rcases hf with rfl | rfl <;> decide
 rw [hf']
 simp [h4,h12,hd,h13,h19,hq]
theorem mkC_ok {f:Int} {pin pan:ByteArray} {n:Nat} (h:goodPin f pin pan = true) (hn:14 - pin.size ≤ n):mkC f pin pan n = 0:=by
 unfold mkC
 rw [if_pos h,if_neg (by rintro ⟨-,h2⟩;omega)]
theorem tdeaL8 (key block:List UInt8) (dec:Bool) (hk:key.length = 16) (hb:block.length = 8):(tdeaN key block dec).length = 8:=by
 have:=And.intro hk hb;exact tdeaN_length key block dec
set_option maxRecDepth 100000 in
set_option maxHeartbeats 8000000 in
theorem order_draw (R:Nat) (ao:Option Addr) (cap:Nat) (code:List UInt8) (i:Nat) (w:World) (hn:code.length ≤ 1048576) (hi:i ≤ code.length) (hRw:R < w.heap.size) (hne:code ≠ [] → ∀ a,ao = some a → a.block ≠ R) (hr:RowAt w ao code) (hR:Rd w R ao cap code i) :
   Calls Tryz.prog 23 #[.pointer (some ⟨R,0,none⟩)] w fun e w'=>∃ (v:Value) (pin:ByteArray),e = .returned (.tuple #[v,.string pin]) ∧ Drawn w' w.heap.size v pin ∧ w.grownBy w' (some R):=by
 have hz:=(zero_of_info Tryz.zeroO8).1
 obtain ⟨W,hW⟩:∃ W,W = w.alloc (.cells zeroO8.toArray 24):=⟨_,rfl⟩
 have kW:Blk W w.heap.size 24 zeroO8:=by rw [hW];exact Blk.new w _ _
 have bW:Below w.heap.size w W:=by rw [hW];exact below_new _ _
 have rd0:Rd W R ao cap code i:=Blk.below hR bW hRw
 have gr0:w.grownBy W (some R):=grown_of_below bW (some R)
 have lW:=kW.lt
 have Hrow:=hide (fun (wx:World) (h:w.grownBy wx (some R))=>(row_keep hr h hne:RowAt wx ao code))
 have HN:=hide (fun (j:Nat) (wx:World) (h1:j ≤ code.length) (h2:RowAt wx ao code) (h3:Rd wx R ao cap code j)=>next_any R ao cap code j wx hn h1 h2 h3)
 have HF:=hide (fun (j:Nat) (wx:World) (h1:j ≤ code.length) (h2:RowAt wx ao code) (h3:Rd wx R ao cap code j)=>format_any R ao cap code j wx hn h1 h2 h3)
 have HPin:=hide (fun (j:Nat) (wx:World) (h1:j ≤ code.length) (h4:R < wx.heap.size) (h2:RowAt wx ao code) (h3:Rd wx R ao cap code j)=>pin_any R ao cap code j wx hn h1 h4 hne h2 h3)
 have HPan:=hide (fun (j:Nat) (wx:World) (h1:j ≤ code.length) (h4:R < wx.heap.size) (h2:RowAt wx ao code) (h3:Rd wx R ao cap code j)=>pan_any R ao cap code j wx hn h1 h4 hne h2 h3)
 have HKs:=hide (fun (j:Nat) (wx:World) (h1:j ≤ code.length) (h4:R < wx.heap.size) (h2:RowAt wx ao code) (h3:Rd wx R ao cap code j)=>ksn_any R ao cap code j wx hn h1 h4 hne h2 h3)
 have HS:=hide (fun (j:Nat) (wx:World) (h1:j ≤ code.length) (h4:R < wx.heap.size) (h2:RowAt wx ao code) (h3:Rd wx R ao cap code j)=>some_any R ao cap code j 10 wx hn h1 (by omega) h4 hne h2 h3)
 have HKy:=hide (fun (use:Int) (j:Nat) (wx:World) (h1:j ≤ code.length) (h4:R < wx.heap.size) (h2:RowAt wx ao code) (h3:Rd wx R ao cap code j)=>key_draw R ao cap code j use wx hn h1 h4 hne h2 h3)
 clear hr hR hne bW
 go_enter Tryz.func23,Tryz.ntmps23
 go_wp2_with fail
 rw [← hW]
 clear hW
 refine (HN.out i W hi (Hrow.out _ gr0) rd0).mono ?_
 rintro e y1 ⟨c,i1,rfl,hc,hi1,rd1,hg1,hsz1⟩
 clear rd0
 have kW_1:=kW.grown hg1 (by simp only [ne_eq,Option.some.injEq];omega)
 have gr_1:=grown_trans gr0 hg1
 clear kW gr0
 clear hg1 hsz1
 go_wp2_with fail
 refine (HPin.out i1 y1 hi1 (Blk.lt rd1) (Hrow.out _ gr_1) rd1).mono ?_
 rintro e y2 ⟨pin,i2,rfl,pl4,pl12,pdg,hi2,rd2,hg2⟩
 clear rd1
 have kW_2:=kW_1.grown hg2 (by simp only [ne_eq,Option.some.injEq];omega)
 have gr_2:=grown_trans gr_1 hg2
 clear kW_1 gr_1
 clear hg2
 go_wp2_with fail
 refine (HF.out i2 y2 hi2 (Hrow.out _ gr_2) rd2).mono ?_
 rintro e y3 ⟨ff,i3,rfl,hff,hi3,rd3,hg3⟩
 clear rd2
 have kW_3:=kW_2.grown hg3 (by simp only [ne_eq,Option.some.injEq];omega)
 have gr_3:=grown_trans gr_2 hg3
 clear kW_2 gr_2
 clear hg3
 go_wp2_with fail
 refine (HF.out i3 y3 hi3 (Hrow.out _ gr_3) rd3).mono ?_
 rintro e y4 ⟨tf,i4,rfl,htf,hi4,rd4,hg4⟩
 clear rd3
 have kW_4:=kW_3.grown hg4 (by simp only [ne_eq,Option.some.injEq];omega)
 have gr_4:=grown_trans gr_3 hg4
 clear kW_3 gr_3
 clear hg4
 go_wp2_with fail
 refine (HPan.out i4 y4 hi4 (Blk.lt rd4) (Hrow.out _ gr_4) rd4).mono ?_
 rintro e y5 ⟨pan,i5,rfl,ql13,ql19,qdg,hi5,rd5,hg5⟩
 clear rd4
 have kW_5:=kW_4.grown hg5 (by simp only [ne_eq,Option.some.injEq];omega)
 have gr_5:=grown_trans gr_4 hg5
 clear kW_4 gr_4
 clear hg5
 obtain ⟨Y,hY⟩:∃ x,x = y5.alloc (.cells ([.slice none 0 0,.int .i64 (ff:Int),.slice none 0 0,.slice none 0 0,.int .i64 (tf:Int),.slice none 0 0,.string pan,.slice none 0 0]:List Value).toArray 24):=⟨_,rfl⟩
 have kO:Blk Y y5.heap.size 24 [.slice none 0 0,.int .i64 (ff:Int),.slice none 0 0,.slice none 0 0,.int .i64 (tf:Int),.slice none 0 0,.string pan,.slice none 0 0]:=by rw [hY];exact Blk.new _ _ _
 have bY:Below y5.heap.size y5 Y:=by rw [hY];exact below_new _ _
 have hgY:=grown_of_below bY (some R)
 have lO:w.heap.size < y5.heap.size:=kW_5.lt
 have rdY:Rd Y R ao cap code i5:=Blk.below rd5 bY (Blk.lt rd5)
 clear rd5
 have kW_6:=kW_5.grown hgY (by simp only [ne_eq,Option.some.injEq];omega)
 have gr_6:=grown_trans gr_5 hgY
 clear kW_5 gr_5
 obtain ⟨GO,hGO⟩:∃ x,x = y5.heap.size:=⟨_,rfl⟩
 rw [← hGO] at kO lO
 have HGO:=hide hGO
 have HY:=hide hY
 clear hgY bY hGO hY
 have lGO:=kO.lt
 go_upto_region 5 with fail
 rw [← show Y = _ from HY,← show GO = _ from HGO]
 clear HY HGO
 by_cases hodd:c % 2 = 1
 · have hcm:(c:Int) % 2 = 1:=by omega
   have hcm2:(c:Int).tmod 2 = 1:=by rw [Int.tmod_eq_emod_of_nonneg (by omega)];exact hcm
   clear hodd
   go_wp2_with fail
   refine (HKs.out i5 Y hi5 (Blk.lt rdY) (Hrow.out _ gr_6) rdY).mono ?_
   rintro e y6 ⟨vk,ks,i6,rfl,hks,ownk,hi6,rd6,hg6⟩
   obtain ⟨gk,ck,hck,rfl,rowk,lok,-⟩:=OwnB.own ownk |>.at' hks (by omega)
   have rk:=row_of rowk
   clear ownk rowk rdY
   have lk:GO < gk:=by omega
   have kW_7:=kW_6.grown hg6 (by simp only [ne_eq,Option.some.injEq];omega)
   have kO_7:=kO.grown hg6 (by simp only [ne_eq,Option.some.injEq];omega)
   have gr_7:=grown_trans gr_6 hg6
   clear kW_6 kO gr_6
   clear hg6
   have s2c:=kO_7.cell 2 (by simp)
   have s2f:=kO_7.free 2
   go_upto_region 8 with fail
   obtain ⟨Y2,hY2⟩:∃ x,x = World.setCell y6 ⟨GO,2,none⟩ (.slice (some ⟨gk,0,none⟩) 10 ck):=⟨_,rfl⟩
   have gsY2:y6.grownBy Y2 (some GO):=by rw [hY2];exact gr_set _ _ _
   have kOY2:Blk Y2 GO 24 [(.slice none 0 0),(.int .i64 (ff:Int)),(.slice (some ⟨gk,0,none⟩) 10 ck),(.slice none 0 0),(.int .i64 (tf:Int)),(.slice none 0 0),(.string pan),(.slice none 0 0)]:=by rw [hY2];exact kO_7.set 2 _
   rw [← hY2]
   clear kO_7
   have kW_8:=kW_7.grown gsY2 (by simp only [ne_eq,Option.some.injEq];omega)
   have rk_8:=row_gr rk gsY2 (by omega)
   have gr_8:=gr_new gr_7 gsY2 (by omega)
   have rd_8:Rd Y2 R ao cap code i6:=Blk.grown rd6 gsY2 (by simp only [ne_eq,Option.some.injEq];omega)
   clear kW_7 rk gr_7 rd6
   clear gsY2 hY2
   clear s2c s2f
   go_wp2_with fail
   refine (HKy.out 3 i6 Y2 hi6 (Blk.lt rd_8) (Hrow.out _ gr_8) rd_8).mono ?_
   rintro e y7 ⟨gnF,gF,cF,Fk,i7,rfl,hgnF,hlF,hcF,loF,rF,hi7,rd7,hg7⟩
   have lF:GO < gF:=by have:=kOY2.lt;omega
   clear rd_8
   have kW_9:=kW_8.grown hg7 (by simp only [ne_eq,Option.some.injEq];omega)
   have kO_9:=kOY2.grown hg7 (by simp only [ne_eq,Option.some.injEq];omega)
   have rk_9:=row_gr rk_8 hg7 (by omega)
   have gr_9:=grown_trans gr_8 hg7
   clear kW_8 kOY2 rk_8 gr_8
   clear hg7
   obtain ⟨ZF,hZF⟩:∃ x,x = y7.alloc (.cells ([.int .i64 3,.int .i64 (gnF:Int),.slice (some ⟨gF,0,none⟩) 16 cF]:List Value).toArray 31):=⟨_,rfl⟩
   have kF:Blk ZF y7.heap.size 31 [.int .i64 3,.int .i64 (gnF:Int),.slice (some ⟨gF,0,none⟩) 16 cF]:=by rw [hZF];exact Blk.new _ _ _
   have bZF:Below y7.heap.size y7 ZF:=by rw [hZF];exact below_new _ _
   have hgZF:=grown_of_below bZF (some R)
   have lBF:GO < y7.heap.size:=kO_9.lt
   have rdZF:Rd ZF R ao cap code i7:=Blk.below rd7 bZF (Blk.lt rd7)
   clear rd7
   have kW_10:=kW_9.grown hgZF (by simp only [ne_eq,Option.some.injEq];omega)
   have kO_10:=kO_9.grown hgZF (by simp only [ne_eq,Option.some.injEq];omega)
   have rk_10:=row_gr rk_9 hgZF (by omega)
   have rF_10:=row_gr rF hgZF (by omega)
   have gr_10:=grown_trans gr_9 hgZF
   clear kW_9 kO_9 rk_9 rF gr_9
   obtain ⟨BF,hBF⟩:∃ x,x = y7.heap.size:=⟨_,rfl⟩
   rw [← hBF] at kF lBF
   have HBF:=hide hBF
   have HZF:=hide hZF
   clear hgZF bZF hBF hZF
   go_upto_region 9 with fail
   rw [← show ZF = _ from HZF,← show BF = _ from HBF]
   clear HZF HBF
   go_wp2_with fail
   refine (HKy.out 1 i7 ZF hi7 (Blk.lt rdZF) (Hrow.out _ gr_10) rdZF).mono ?_
   rintro e y8 ⟨gnT,gT,cT,Tk,i8,rfl,hgnT,hlT,hcT,loT,rT,hi8,rd8,hg8⟩
   have lT:GO < gT:=by have:=kO_10.lt;omega
   clear rdZF
   have kW_11:=kW_10.grown hg8 (by simp only [ne_eq,Option.some.injEq];omega)
   have kO_11:=kO_10.grown hg8 (by simp only [ne_eq,Option.some.injEq];omega)
   have kF_11:=kF.grown hg8 (by simp only [ne_eq,Option.some.injEq];omega)
   have rk_11:=row_gr rk_10 hg8 (by omega)
   have rF_11:=row_gr rF_10 hg8 (by omega)
   have gr_11:=grown_trans gr_10 hg8
   clear kW_10 kO_10 kF rk_10 rF_10 gr_10
   clear hg8
   obtain ⟨ZT,hZT⟩:∃ x,x = y8.alloc (.cells ([.int .i64 1,.int .i64 (gnT:Int),.slice (some ⟨gT,0,none⟩) 16 cT]:List Value).toArray 31):=⟨_,rfl⟩
   have kT:Blk ZT y8.heap.size 31 [.int .i64 1,.int .i64 (gnT:Int),.slice (some ⟨gT,0,none⟩) 16 cT]:=by rw [hZT];exact Blk.new _ _ _
   have bZT:Below y8.heap.size y8 ZT:=by rw [hZT];exact below_new _ _
   have hgZT:=grown_of_below bZT (some R)
   have lBT:GO < y8.heap.size:=kO_11.lt
   have rdZT:Rd ZT R ao cap code i8:=Blk.below rd8 bZT (Blk.lt rd8)
   clear rd8
   have kW_12:=kW_11.grown hgZT (by simp only [ne_eq,Option.some.injEq];omega)
   have kO_12:=kO_11.grown hgZT (by simp only [ne_eq,Option.some.injEq];omega)
   have kF_12:=kF_11.grown hgZT (by simp only [ne_eq,Option.some.injEq];omega)
   have rk_12:=row_gr rk_11 hgZT (by omega)
   have rF_12:=row_gr rF_11 hgZT (by omega)
   have rT_12:=row_gr rT hgZT (by omega)
   have gr_12:=grown_trans gr_11 hgZT
   clear kW_11 kO_11 kF_11 rk_11 rF_11 rT gr_11
   obtain ⟨BT,hBT⟩:∃ x,x = y8.heap.size:=⟨_,rfl⟩
   rw [← hBT] at kT lBT
   have HBT:=hide hBT
   have HZT:=hide hZT
   clear hgZT bZT hBT hZT
   go_upto_region 10 with fail
   rw [← show ZT = _ from HZT,← show BT = _ from HBT]
   clear HZT HBT
   have d2:=kF_12.cell 2 (by simp)
   have c2:=kO_12.cell 2 (by simp)
   have hDl:(keyL Fk ks).length = 16:=by unfold keyL;rw [if_pos ⟨hlF,hks⟩];exact keyN16_length _ _
   have hXl:(variantL (keyL Fk ks) 1).length = 16:=by
     unfold variantL
     rw [if_pos ⟨hDl,.inl rfl⟩,xorL_length _ _ (by rw [List.length_append,maskL_length,hDl])]
     exact hDl
   have HDK:=hide (keyS_all Fk ks (some ⟨gF,0,none⟩) (some ⟨gk,0,none⟩) cF ck ZT (by omega) (by omega) (by omega) (by omega) rF_12 rk_12)
   rw [hlF,hks] at HDK
   have HVR:=hide (fun (a:Option Addr) (c:Nat) (h0:16 ≤ c) (wx:World) (h1:RowAt wx a (keyL Fk ks))=>specVariant_all (keyL Fk ks) 1 a c wx (by omega) (by omega) (by omega) h1)
   rw [hDl] at HVR
   have HDl:=hide hDl
   have HXl:=hide hXl
   obtain ⟨KX,hKX⟩:∃ K,K = variantL (keyL Fk ks) 1:=⟨_,rfl⟩
   rw [← hKX] at HVR HXl hXl
   have HKX:=hide hKX
   clear hDl hKX hXl
   go_wp2_with fail
   refine HDK.out.mono ?_
   rintro e y9 ⟨v9,rfl,own9,bel9⟩
   obtain ⟨g9,c9,hc9,rfl,row9,lo9,-⟩:=own9.at' HDl.out (by omega)
   have hg9:=grown_of_below bel9 (some R)
   have r9:=row_of row9
   have l9:GO < g9:=by have:=kO_12.lt;omega
   clear own9 row9 HDK d2 c2
   have kW_13:=kW_12.grown hg9 (by simp only [ne_eq,Option.some.injEq];omega)
   have kO_13:=kO_12.grown hg9 (by simp only [ne_eq,Option.some.injEq];omega)
   have kF_13:=kF_12.grown hg9 (by simp only [ne_eq,Option.some.injEq];omega)
   have kT_13:=kT.grown hg9 (by simp only [ne_eq,Option.some.injEq];omega)
   have rk_13:=row_gr rk_12 hg9 (by omega)
   have rF_13:=row_gr rF_12 hg9 (by omega)
   have rT_13:=row_gr rT_12 hg9 (by omega)
   have gr_13:=grown_trans gr_12 hg9
   have rd_13:Rd y9 R ao cap code i8:=Blk.below rdZT bel9 (Blk.lt rdZT)
   clear kW_12 kO_12 kF_12 kT rk_12 rF_12 rT_12 gr_12 rdZT
   clear hg9 bel9
   go_wp2_with fail
   refine (HVR.out _ _ hc9 _ r9).mono ?_
   rintro e y10 ⟨v10,rfl,own10,bel10⟩
   obtain ⟨gX,cX,hcX,rfl,row10,lo10,-⟩:=own10.at' HXl.out (by omega)
   have hg10:=grown_of_below bel10 (some R)
   have rX:=row_of row10
   have lX:GO < gX:=by have:=kO_13.lt;omega
   clear own10 row10 r9 HVR
   have kW_14:=kW_13.grown hg10 (by simp only [ne_eq,Option.some.injEq];omega)
   have kO_14:=kO_13.grown hg10 (by simp only [ne_eq,Option.some.injEq];omega)
   have kF_14:=kF_13.grown hg10 (by simp only [ne_eq,Option.some.injEq];omega)
   have kT_14:=kT_13.grown hg10 (by simp only [ne_eq,Option.some.injEq];omega)
   have rk_14:=row_gr rk_13 hg10 (by omega)
   have rF_14:=row_gr rF_13 hg10 (by omega)
   have rT_14:=row_gr rT_13 hg10 (by omega)
   have gr_14:=grown_trans gr_13 hg10
   have rd_14:Rd y10 R ao cap code i8:=Blk.below rd_13 bel10 (Blk.lt rd_13)
   clear kW_13 kO_13 kF_13 kT_13 rk_13 rF_13 rT_13 gr_13 rd_13
   clear hg10 bel10
   go_upto_region 13 with fail
   obtain ⟨V13,hV13⟩:∃ V,V = World.drew y10:=⟨_,rfl⟩
   have bV13:Below y10.heap.size y10 V13:=by rw [hV13];exact (Below.refl _ _).drew
   have hgV13:=grown_of_below bV13 (some R)
   have kW_15:=kW_14.grown hgV13 (by simp only [ne_eq,Option.some.injEq];omega)
   have kO_15:=kO_14.grown hgV13 (by simp only [ne_eq,Option.some.injEq];omega)
   have kF_15:=kF_14.grown hgV13 (by simp only [ne_eq,Option.some.injEq];omega)
   have kT_15:=kT_14.grown hgV13 (by simp only [ne_eq,Option.some.injEq];omega)
   have rk_15:=row_gr rk_14 hgV13 (by omega)
   have rF_15:=row_gr rF_14 hgV13 (by omega)
   have rT_15:=row_gr rT_14 hgV13 (by omega)
   have rX_15:=row_gr rX hgV13 (by omega)
   have gr_15:=grown_trans gr_14 hgV13
   have rd_15:Rd V13 R ao cap code i8:=Blk.below rd_14 bV13 (Blk.lt rd_14)
   clear kW_14 kO_14 kF_14 kT_14 rk_14 rF_14 rT_14 rX gr_14 rd_14
   have keep:Hid (∀ {P:Prop},P → P):=fun h=>h
   have s0:V13.rangeAt BF 0 [.int .i64 3,.int .i64 (gnF:Int),.slice (some ⟨gF,0,none⟩) 16 cF]:=blk_whole kF_15
   refine wp_region_held_drew (S:=fun x=>x.rangeAt BF 0 [.int .i64 3,.int .i64 (gnF:Int),.slice (some ⟨gF,0,none⟩) 16 cF]) (by kernel_rfl) (by rw [← hV13];exact s0) (fun hHeld=>?_)
   rw [← hV13] at hHeld ⊢
   clear hV13 bV13 hgV13
   refine tk (i:=1) (v:=(.agg ([.int .i64 3,.int .i64 (gnF:Int),.slice (some ⟨gF,0,none⟩) 16 cF]:List Value).toArray)) rfl (yieldsIf_load_mid (by rfl) 31 _ rfl BF 0 rfl ([.int .i64 3,.int .i64 (gnF:Int),.slice (some ⟨gF,0,none⟩) 16 cF]) _ (fun _ h=>h) Tryz.underlying31 rfl (by kernel_rfl)) hHeld ?_
   dsimp only [Act.put,List.getElem_toArray,List.getElem_cons_zero,List.getElem_cons_succ]
   simp only [List.setIfInBounds_toArray,List.set_cons_succ,List.set_cons_zero]
   refine rdy1 0 (fun KQ hK=>?_)
   go_simp
   refine (master_any V13).mono ?_
   rintro e q13 ⟨gm13,rfl,lom13,-,rm13,belm13⟩
   have hgm13:=grown_of_below belm13 (some R)
   have lgm13:GO < gm13:=by have:=kO_15.lt;omega
   have kW_16:=kW_15.grown hgm13 (by simp only [ne_eq,Option.some.injEq];omega)
   have kO_16:=kO_15.grown hgm13 (by simp only [ne_eq,Option.some.injEq];omega)
   have kF_16:=kF_15.grown hgm13 (by simp only [ne_eq,Option.some.injEq];omega)
   have kT_16:=kT_15.grown hgm13 (by simp only [ne_eq,Option.some.injEq];omega)
   have rk_16:=row_gr rk_15 hgm13 (by omega)
   have rF_16:=row_gr rF_15 hgm13 (by omega)
   have rT_16:=row_gr rT_15 hgm13 (by omega)
   have rX_16:=row_gr rX_15 hgm13 (by omega)
   have gr_16:=grown_trans gr_15 hgm13
   have rd_16:Rd q13 R ao cap code i8:=Blk.below rd_15 belm13 (Blk.lt rd_15)
   clear kW_15 kO_15 kF_15 kT_15 rk_15 rF_15 rT_15 rX_15 gr_15 rd_15
   clear hgm13 belm13
   go_wp2_with fail
   refine hK.out _ _ (keep.out (blk_whole kF_16)) (fun hHeld=>?_)
   clear hK KQ
   try dsimp only [Act.put]
   refine rdy1 2 (fun KQ hK=>?_)
   go_simp
   have HWr:=hide (wrapS_all masterL Fk 3 (gnF:Int) (some ⟨gm13,0,none⟩) (some ⟨gF,0,none⟩) 16 cF q13 (by decide) (by omega) rm13 rF_16)
   rw [show masterL.length = 16 from rfl,hlF] at HWr
   refine HWr.out.mono ?_
   rintro e z13 ⟨vw13,rfl,ow13,belw13⟩
   have hwl13:(wrapL masterL Fk 3 (gnF:Int)).length = 36:=wrap36 _ _ _ _ ⟨rfl,hlF,by omega,by omega,by omega,by omega⟩
   obtain ⟨gw13,cw13,hcw13,rfl,roww13,low13,-⟩:=ow13.at' hwl13 (by omega)
   have hgw13:=grown_of_below belw13 (some R)
   have rw13:=row_of roww13
   have lgw13:GO < gw13:=by have:=kO_16.lt;omega
   clear ow13 roww13 HWr
   have kW_17:=kW_16.grown hgw13 (by simp only [ne_eq,Option.some.injEq];omega)
   have kO_17:=kO_16.grown hgw13 (by simp only [ne_eq,Option.some.injEq];omega)
   have kF_17:=kF_16.grown hgw13 (by simp only [ne_eq,Option.some.injEq];omega)
   have kT_17:=kT_16.grown hgw13 (by simp only [ne_eq,Option.some.injEq];omega)
   have rk_17:=row_gr rk_16 hgw13 (by omega)
   have rF_17:=row_gr rF_16 hgw13 (by omega)
   have rT_17:=row_gr rT_16 hgw13 (by omega)
   have rX_17:=row_gr rX_16 hgw13 (by omega)
   have rm13_17:=row_gr rm13 hgw13 (by omega)
   have gr_17:=grown_trans gr_16 hgw13
   have rd_17:Rd z13 R ao cap code i8:=Blk.below rd_16 belw13 (Blk.lt rd_16)
   clear kW_16 kO_16 kF_16 kT_16 rk_16 rF_16 rT_16 rX_16 rm13 gr_16 rd_16
   clear hgw13 hwl13 belw13
   go_wp2_with fail
   refine hK.out _ _ (keep.out (blk_whole kF_17)) (fun hHeld=>?_)
   clear hK KQ
   try dsimp only [Act.put]
   refine tk (i:=3) (v:=(.pointer (some ⟨GO,0,none⟩))) rfl (Or.inl ⟨by rfl,?_⟩) hHeld ?_
   · intro _ _;go_simp
   dsimp only [Act.put,List.getElem_toArray,List.getElem_cons_zero,List.getElem_cons_succ]
   simp only [List.setIfInBounds_toArray,List.set_cons_succ,List.set_cons_zero]
   refine rdy1 4 (fun KQ hK=>?_)
   have sc:=kO_17.cell 0 (by simp)
   have sf:=kO_17.free 0
   go_simp
   clear sc sf
   obtain ⟨X13,hX13⟩:∃ x,x = World.setCell z13 ⟨GO,0,none⟩ (.slice (some ⟨gw13,0,none⟩) 36 cw13):=⟨_,rfl⟩
   have gsX13:z13.grownBy X13 (some GO):=by rw [hX13];exact gr_set _ _ _
   have kOX13:Blk X13 GO 24 [(.slice (some ⟨gw13,0,none⟩) 36 cw13),(.int .i64 (ff:Int)),(.slice (some ⟨gk,0,none⟩) 10 ck),(.slice none 0 0),(.int .i64 (tf:Int)),(.slice none 0 0),(.string pan),(.slice none 0 0)]:=by rw [hX13];exact kO_17.set 0 _
   rw [← hX13]
   clear kO_17
   have kW_18:=kW_17.grown gsX13 (by simp only [ne_eq,Option.some.injEq];omega)
   have kF_18:=kF_17.grown gsX13 (by simp only [ne_eq,Option.some.injEq];omega)
   have kT_18:=kT_17.grown gsX13 (by simp only [ne_eq,Option.some.injEq];omega)
   have rk_18:=row_gr rk_17 gsX13 (by omega)
   have rF_18:=row_gr rF_17 gsX13 (by omega)
   have rT_18:=row_gr rT_17 gsX13 (by omega)
   have rX_18:=row_gr rX_17 gsX13 (by omega)
   have rw13_18:=row_gr rw13 gsX13 (by omega)
   have gr_18:=gr_new gr_17 gsX13 (by omega)
   have rd_18:Rd X13 R ao cap code i8:=Blk.grown rd_17 gsX13 (by simp only [ne_eq,Option.some.injEq];omega)
   clear kW_17 kF_17 kT_17 rk_17 rF_17 rT_17 rX_17 rw13 gr_17 rd_17
   clear gsX13 hX13
   refine hK.out _ _ (keep.out (blk_whole kF_18)) (fun hHeld=>?_)
   clear hK KQ
   try dsimp only [Act.put]
   refine wpAnyH_done (by kernel_rfl) ?_ _
   clear hHeld keep s0
   go_upto_region 14 with fail
   obtain ⟨V14,hV14⟩:∃ V,V = World.drew X13:=⟨_,rfl⟩
   have bV14:Below X13.heap.size X13 V14:=by rw [hV14];exact (Below.refl _ _).drew
   have hgV14:=grown_of_below bV14 (some R)
   have kW_19:=kW_18.grown hgV14 (by simp only [ne_eq,Option.some.injEq];omega)
   have kF_19:=kF_18.grown hgV14 (by simp only [ne_eq,Option.some.injEq];omega)
   have kT_19:=kT_18.grown hgV14 (by simp only [ne_eq,Option.some.injEq];omega)
   have kO_19:=kOX13.grown hgV14 (by simp only [ne_eq,Option.some.injEq];omega)
   have rk_19:=row_gr rk_18 hgV14 (by omega)
   have rF_19:=row_gr rF_18 hgV14 (by omega)
   have rT_19:=row_gr rT_18 hgV14 (by omega)
   have rX_19:=row_gr rX_18 hgV14 (by omega)
   have rw13_19:=row_gr rw13_18 hgV14 (by omega)
   have gr_19:=grown_trans gr_18 hgV14
   have rd_19:Rd V14 R ao cap code i8:=Blk.below rd_18 bV14 (Blk.lt rd_18)
   clear kW_18 kF_18 kT_18 kOX13 rk_18 rF_18 rT_18 rX_18 rw13_18 gr_18 rd_18
   have keep:Hid (∀ {P:Prop},P → P):=fun h=>h
   have s0:V14.rangeAt BT 0 [.int .i64 1,.int .i64 (gnT:Int),.slice (some ⟨gT,0,none⟩) 16 cT]:=blk_whole kT_19
   refine wp_region_held_drew (S:=fun x=>x.rangeAt BT 0 [.int .i64 1,.int .i64 (gnT:Int),.slice (some ⟨gT,0,none⟩) 16 cT]) (by kernel_rfl) (by rw [← hV14];exact s0) (fun hHeld=>?_)
   rw [← hV14] at hHeld ⊢
   clear hV14 bV14 hgV14
   refine tk (i:=1) (v:=(.agg ([.int .i64 1,.int .i64 (gnT:Int),.slice (some ⟨gT,0,none⟩) 16 cT]:List Value).toArray)) rfl (yieldsIf_load_mid (by rfl) 31 _ rfl BT 0 rfl ([.int .i64 1,.int .i64 (gnT:Int),.slice (some ⟨gT,0,none⟩) 16 cT]) _ (fun _ h=>h) Tryz.underlying31 rfl (by kernel_rfl)) hHeld ?_
   dsimp only [Act.put,List.getElem_toArray,List.getElem_cons_zero,List.getElem_cons_succ]
   simp only [List.setIfInBounds_toArray,List.set_cons_succ,List.set_cons_zero]
   refine rdy1 0 (fun KQ hK=>?_)
   go_simp
   refine (master_any V14).mono ?_
   rintro e q14 ⟨gm14,rfl,lom14,-,rm14,belm14⟩
   have hgm14:=grown_of_below belm14 (some R)
   have lgm14:GO < gm14:=by have:=kO_19.lt;omega
   have kW_20:=kW_19.grown hgm14 (by simp only [ne_eq,Option.some.injEq];omega)
   have kF_20:=kF_19.grown hgm14 (by simp only [ne_eq,Option.some.injEq];omega)
   have kT_20:=kT_19.grown hgm14 (by simp only [ne_eq,Option.some.injEq];omega)
   have kO_20:=kO_19.grown hgm14 (by simp only [ne_eq,Option.some.injEq];omega)
   have rk_20:=row_gr rk_19 hgm14 (by omega)
   have rF_20:=row_gr rF_19 hgm14 (by omega)
   have rT_20:=row_gr rT_19 hgm14 (by omega)
   have rX_20:=row_gr rX_19 hgm14 (by omega)
   have rw13_20:=row_gr rw13_19 hgm14 (by omega)
   have gr_20:=grown_trans gr_19 hgm14
   have rd_20:Rd q14 R ao cap code i8:=Blk.below rd_19 belm14 (Blk.lt rd_19)
   clear kW_19 kF_19 kT_19 kO_19 rk_19 rF_19 rT_19 rX_19 rw13_19 gr_19 rd_19
   clear hgm14 belm14
   go_wp2_with fail
   refine hK.out _ _ (keep.out (blk_whole kT_20)) (fun hHeld=>?_)
   clear hK KQ
   try dsimp only [Act.put]
   refine rdy1 2 (fun KQ hK=>?_)
   go_simp
   have HWr:=hide (wrapS_all masterL Tk 1 (gnT:Int) (some ⟨gm14,0,none⟩) (some ⟨gT,0,none⟩) 16 cT q14 (by decide) (by omega) rm14 rT_20)
   rw [show masterL.length = 16 from rfl,hlT] at HWr
   refine HWr.out.mono ?_
   rintro e z14 ⟨vw14,rfl,ow14,belw14⟩
   have hwl14:(wrapL masterL Tk 1 (gnT:Int)).length = 36:=wrap36 _ _ _ _ ⟨rfl,hlT,by omega,by omega,by omega,by omega⟩
   obtain ⟨gw14,cw14,hcw14,rfl,roww14,low14,-⟩:=ow14.at' hwl14 (by omega)
   have hgw14:=grown_of_below belw14 (some R)
   have rw14:=row_of roww14
   have lgw14:GO < gw14:=by have:=kO_20.lt;omega
   clear ow14 roww14 HWr
   have kW_21:=kW_20.grown hgw14 (by simp only [ne_eq,Option.some.injEq];omega)
   have kF_21:=kF_20.grown hgw14 (by simp only [ne_eq,Option.some.injEq];omega)
   have kT_21:=kT_20.grown hgw14 (by simp only [ne_eq,Option.some.injEq];omega)
   have kO_21:=kO_20.grown hgw14 (by simp only [ne_eq,Option.some.injEq];omega)
   have rk_21:=row_gr rk_20 hgw14 (by omega)
   have rF_21:=row_gr rF_20 hgw14 (by omega)
   have rT_21:=row_gr rT_20 hgw14 (by omega)
   have rX_21:=row_gr rX_20 hgw14 (by omega)
   have rw13_21:=row_gr rw13_20 hgw14 (by omega)
   have rm14_21:=row_gr rm14 hgw14 (by omega)
   have gr_21:=grown_trans gr_20 hgw14
   have rd_21:Rd z14 R ao cap code i8:=Blk.below rd_20 belw14 (Blk.lt rd_20)
   clear kW_20 kF_20 kT_20 kO_20 rk_20 rF_20 rT_20 rX_20 rw13_20 rm14 gr_20 rd_20
   clear hgw14 hwl14 belw14
   go_wp2_with fail
   refine hK.out _ _ (keep.out (blk_whole kT_21)) (fun hHeld=>?_)
   clear hK KQ
   try dsimp only [Act.put]
   refine tk (i:=3) (v:=(.pointer (some ⟨GO,3,none⟩))) rfl (Or.inl ⟨by rfl,?_⟩) hHeld ?_
   · intro _ _;go_simp
   dsimp only [Act.put,List.getElem_toArray,List.getElem_cons_zero,List.getElem_cons_succ]
   simp only [List.setIfInBounds_toArray,List.set_cons_succ,List.set_cons_zero]
   refine rdy1 4 (fun KQ hK=>?_)
   have sc:=kO_21.cell 3 (by simp)
   have sf:=kO_21.free 3
   go_simp
   clear sc sf
   obtain ⟨X14,hX14⟩:∃ x,x = World.setCell z14 ⟨GO,3,none⟩ (.slice (some ⟨gw14,0,none⟩) 36 cw14):=⟨_,rfl⟩
   have gsX14:z14.grownBy X14 (some GO):=by rw [hX14];exact gr_set _ _ _
   have kOX14:Blk X14 GO 24 [(.slice (some ⟨gw13,0,none⟩) 36 cw13),(.int .i64 (ff:Int)),(.slice (some ⟨gk,0,none⟩) 10 ck),(.slice (some ⟨gw14,0,none⟩) 36 cw14),(.int .i64 (tf:Int)),(.slice none 0 0),(.string pan),(.slice none 0 0)]:=by rw [hX14];exact kO_21.set 3 _
   rw [← hX14]
   clear kO_21
   have kW_22:=kW_21.grown gsX14 (by simp only [ne_eq,Option.some.injEq];omega)
   have kF_22:=kF_21.grown gsX14 (by simp only [ne_eq,Option.some.injEq];omega)
   have kT_22:=kT_21.grown gsX14 (by simp only [ne_eq,Option.some.injEq];omega)
   have rk_22:=row_gr rk_21 gsX14 (by omega)
   have rF_22:=row_gr rF_21 gsX14 (by omega)
   have rT_22:=row_gr rT_21 gsX14 (by omega)
   have rX_22:=row_gr rX_21 gsX14 (by omega)
   have rw13_22:=row_gr rw13_21 gsX14 (by omega)
   have rw14_22:=row_gr rw14 gsX14 (by omega)
   have gr_22:=gr_new gr_21 gsX14 (by omega)
   have rd_22:Rd X14 R ao cap code i8:=Blk.grown rd_21 gsX14 (by simp only [ne_eq,Option.some.injEq];omega)
   clear kW_21 kF_21 kT_21 rk_21 rF_21 rT_21 rX_21 rw13_21 rw14 gr_21 rd_21
   clear gsX14 hX14
   refine hK.out _ _ (keep.out (blk_whole kT_22)) (fun hHeld=>?_)
   clear hK KQ
   try dsimp only [Act.put]
   refine wpAnyH_done (by kernel_rfl) ?_ _
   clear hHeld keep s0
   go_upto_region 15 with fail
   obtain ⟨V15,hV15⟩:∃ V,V = World.drew X14:=⟨_,rfl⟩
   have bV15:Below X14.heap.size X14 V15:=by rw [hV15];exact (Below.refl _ _).drew
   have hgV15:=grown_of_below bV15 (some R)
   have kW_23:=kW_22.grown hgV15 (by simp only [ne_eq,Option.some.injEq];omega)
   have kF_23:=kF_22.grown hgV15 (by simp only [ne_eq,Option.some.injEq];omega)
   have kT_23:=kT_22.grown hgV15 (by simp only [ne_eq,Option.some.injEq];omega)
   have kO_23:=kOX14.grown hgV15 (by simp only [ne_eq,Option.some.injEq];omega)
   have rk_23:=row_gr rk_22 hgV15 (by omega)
   have rF_23:=row_gr rF_22 hgV15 (by omega)
   have rT_23:=row_gr rT_22 hgV15 (by omega)
   have rX_23:=row_gr rX_22 hgV15 (by omega)
   have rw13_23:=row_gr rw13_22 hgV15 (by omega)
   have rw14_23:=row_gr rw14_22 hgV15 (by omega)
   have gr_23:=grown_trans gr_22 hgV15
   have rd_23:Rd V15 R ao cap code i8:=Blk.below rd_22 bV15 (Blk.lt rd_22)
   clear kW_22 kF_22 kT_22 kOX14 rk_22 rF_22 rT_22 rX_22 rw13_22 rw14_22 gr_22 rd_22
   have keep:Hid (∀ {P:Prop},P → P):=fun h=>h
   have s0:V15.cell? ⟨GO,1,none⟩ = some (.int .i64 (ff:Int)) ∧ V15.cell? ⟨GO,6,none⟩ = some (.string pan):=⟨kO_23.cell 1 (by simp),kO_23.cell 6 (by simp)⟩
   refine wp_region_held_drew (S:=fun x=>x.cell? ⟨GO,1,none⟩ = some (.int .i64 (ff:Int)) ∧ x.cell? ⟨GO,6,none⟩ = some (.string pan)) (by kernel_rfl) (by rw [← hV15];exact s0) (fun hHeld=>?_)
   rw [← hV15] at hHeld ⊢
   clear hV15 bV15 hgV15
   refine tk (i:=0) (v:=(.slice (some ⟨gX,0,none⟩) 16 cX)) rfl (Or.inl ⟨by rfl,?_⟩) hHeld ?_
   · intro _ _;go_simp
   dsimp only [Act.put,List.getElem_toArray,List.getElem_cons_zero,List.getElem_cons_succ]
   simp only [List.setIfInBounds_toArray,List.set_cons_succ,List.set_cons_zero]
   refine tk (i:=1) (v:=(.pointer (some ⟨GO,1,none⟩))) rfl (Or.inl ⟨by rfl,?_⟩) hHeld ?_
   · intro _ _;go_simp
   dsimp only [Act.put,List.getElem_toArray,List.getElem_cons_zero,List.getElem_cons_succ]
   simp only [List.setIfInBounds_toArray,List.set_cons_succ,List.set_cons_zero]
   refine tk (i:=2) (v:=(.int .i64 (ff:Int))) rfl (Or.inl ⟨by rfl,fun w1 h=>by have hc:=h.1;go_simp⟩) hHeld ?_
   dsimp only [Act.put,List.getElem_toArray,List.getElem_cons_zero,List.getElem_cons_succ]
   simp only [List.setIfInBounds_toArray,List.set_cons_succ,List.set_cons_zero]
   refine tk (i:=3) (v:=(.string pin)) rfl (Or.inl ⟨by rfl,?_⟩) hHeld ?_
   · intro _ _;go_simp
   dsimp only [Act.put,List.getElem_toArray,List.getElem_cons_zero,List.getElem_cons_succ]
   simp only [List.setIfInBounds_toArray,List.set_cons_succ,List.set_cons_zero]
   refine tk (i:=4) (v:=(.pointer (some ⟨GO,6,none⟩))) rfl (Or.inl ⟨by rfl,?_⟩) hHeld ?_
   · intro _ _;go_simp
   dsimp only [Act.put,List.getElem_toArray,List.getElem_cons_zero,List.getElem_cons_succ]
   simp only [List.setIfInBounds_toArray,List.set_cons_succ,List.set_cons_zero]
   refine tk (i:=5) (v:=(.string pan)) rfl (Or.inl ⟨by rfl,fun w1 h=>by have hc:=h.2;go_simp⟩) hHeld ?_
   dsimp only [Act.put,List.getElem_toArray,List.getElem_cons_zero,List.getElem_cons_succ]
   simp only [List.setIfInBounds_toArray,List.set_cons_succ,List.set_cons_zero]
   refine tk (i:=6) (v:=(.pointer (some ⟨R,0,none⟩))) rfl (Or.inl ⟨by rfl,?_⟩) hHeld ?_
   · intro _ _;go_simp
   dsimp only [Act.put,List.getElem_toArray,List.getElem_cons_zero,List.getElem_cons_succ]
   simp only [List.setIfInBounds_toArray,List.set_cons_succ,List.set_cons_zero]
   refine rdy1 7 (fun KQ hK=>?_)
   go_simp
   refine (HS.out i8 V15 hi8 (Blk.lt rd_23) (Hrow.out _ gr_23) rd_23).mono ?_
   rintro e y15 ⟨v15,d1,i15,rfl,hd1,own15,hi15,rd15,hg15⟩
   obtain ⟨g15,c15,hc15,rfl,row15,lo15,-⟩:=OwnB.own own15 |>.at' hd1 (by omega)
   have r15:=row_of row15
   have l15:GO < g15:=by have:=kO_23.lt;omega
   clear own15 row15 rd_23
   have kW_24:=kW_23.grown hg15 (by simp only [ne_eq,Option.some.injEq];omega)
   have kF_24:=kF_23.grown hg15 (by simp only [ne_eq,Option.some.injEq];omega)
   have kT_24:=kT_23.grown hg15 (by simp only [ne_eq,Option.some.injEq];omega)
   have kO_24:=kO_23.grown hg15 (by simp only [ne_eq,Option.some.injEq];omega)
   have rk_24:=row_gr rk_23 hg15 (by omega)
   have rF_24:=row_gr rF_23 hg15 (by omega)
   have rT_24:=row_gr rT_23 hg15 (by omega)
   have rX_24:=row_gr rX_23 hg15 (by omega)
   have rw13_24:=row_gr rw13_23 hg15 (by omega)
   have rw14_24:=row_gr rw14_23 hg15 (by omega)
   have gr_24:=grown_trans gr_23 hg15
   clear kW_23 kF_23 kT_23 kO_23 rk_23 rF_23 rT_23 rX_23 rw13_23 rw14_23 gr_23
   clear hg15
   go_wp2_with fail
   refine hK.out _ _ (keep.out ⟨kO_24.cell 1 (by simp),kO_24.cell 6 (by simp)⟩) (fun hHeld=>?_)
   clear hK KQ
   try dsimp only [Act.put]
   refine rdy1 8 (fun KQ hK=>?_)
   go_simp
   have hgp:goodPin (ff:Int) pin pan = true:=goodPin_of hff pl4 pl12 pdg ql13 ql19 qdg
   have hmc:mkC (ff:Int) pin pan d1.length = 0:=mkC_ok hgp (by omega)
   have HMK:=hide ((make_any (ff:Int) pin pan d1 (by unfold maxLen;omega) (by unfold maxLen;omega) (by omega)).2 (some ⟨g15,0,none⟩) c15 y15 (by omega) r15)
   rw [hmc,hd1] at HMK
   refine HMK.out.mono ?_
   rintro e y16 ⟨v16,rfl,own16,bel16⟩
   have hml:=mkL_ok (ff:Int) pin pan d1 hmc
   obtain ⟨g16,c16,hc16,rfl,row16,lo16,-⟩:=own16.at' hml (by omega)
   have hg16:=grown_of_below bel16 (some R)
   have r16:=row_of row16
   have l16:GO < g16:=by have:=kO_24.lt;omega
   obtain ⟨mu,hmu⟩:∃ x,x = mkU (ff:Int) pin pan 10:=⟨_,rfl⟩
   rw [← hmu]
   clear own16 row16 HMK hmu hgp
   have kW_25:=kW_24.grown hg16 (by simp only [ne_eq,Option.some.injEq];omega)
   have kF_25:=kF_24.grown hg16 (by simp only [ne_eq,Option.some.injEq];omega)
   have kT_25:=kT_24.grown hg16 (by simp only [ne_eq,Option.some.injEq];omega)
   have kO_25:=kO_24.grown hg16 (by simp only [ne_eq,Option.some.injEq];omega)
   have rk_25:=row_gr rk_24 hg16 (by omega)
   have rF_25:=row_gr rF_24 hg16 (by omega)
   have rT_25:=row_gr rT_24 hg16 (by omega)
   have rX_25:=row_gr rX_24 hg16 (by omega)
   have rw13_25:=row_gr rw13_24 hg16 (by omega)
   have rw14_25:=row_gr rw14_24 hg16 (by omega)
   have r15_25:=row_gr r15 hg16 (by omega)
   have gr_25:=grown_trans gr_24 hg16
   have rd_25:Rd y16 R ao cap code i15:=Blk.below rd15 bel16 (Blk.lt rd15)
   clear kW_24 kF_24 kT_24 kO_24 rk_24 rF_24 rT_24 rX_24 rw13_24 rw14_24 r15 gr_24 rd15
   clear hg16 bel16
   go_wp2_with fail
   refine hK.out _ _ (keep.out ⟨kO_25.cell 1 (by simp),kO_25.cell 6 (by simp)⟩) (fun hHeld=>?_)
   clear hK KQ
   try dsimp only [Act.put]
   have hfd:=fun (wx:World)=>(show (Instr.field 40 (.agg #[.int .i64 0,.slice (some ⟨g16,0,none⟩) 8 c16,.int .i64 mu]) 1).run Tryz.prog wx = .ok (.slice (some ⟨g16,0,none⟩) 8 c16) wx by kernel_rfl)
   refine tk (i:=9) (v:=(.slice (some ⟨g16,0,none⟩) 8 c16)) rfl (Or.inl ⟨by rfl,?_⟩) hHeld ?_
   · intro _ _;go_simp
   dsimp only [Act.put,List.getElem_toArray,List.getElem_cons_zero,List.getElem_cons_succ]
   simp only [List.setIfInBounds_toArray,List.set_cons_succ,List.set_cons_zero]
   refine rdy1 10 (fun KQ hK=>?_)
   go_simp
   have HTD:=hide (specTdea_all KX (mkL (ff:Int) pin pan d1) false (some ⟨gX,0,none⟩) (some ⟨g16,0,none⟩) cX c16 y16 (by have:=HXl.out;omega) (by omega) (by have:=HXl.out;omega) (by omega) rX_25 r16)
   rw [HXl.out,hml] at HTD
   refine HTD.out.mono ?_
   rintro e y17 ⟨v17,rfl,own17,bel17⟩
   have htl:(tdeaL KX (mkL (ff:Int) pin pan d1) false).length = 8:=by unfold tdeaL;rw [if_pos ⟨HXl.out,hml⟩];exact tdeaL8 _ _ _ HXl.out hml
   obtain ⟨g17,c17,hc17,rfl,row17,lo17,-⟩:=own17.at' htl (by omega)
   have hg17:=grown_of_below bel17 (some R)
   have r17:=row_of row17
   have l17:GO < g17:=by have:=kO_25.lt;omega
   clear own17 row17 HTD htl
   have kW_26:=kW_25.grown hg17 (by simp only [ne_eq,Option.some.injEq];omega)
   have kF_26:=kF_25.grown hg17 (by simp only [ne_eq,Option.some.injEq];omega)
   have kT_26:=kT_25.grown hg17 (by simp only [ne_eq,Option.some.injEq];omega)
   have kO_26:=kO_25.grown hg17 (by simp only [ne_eq,Option.some.injEq];omega)
   have rk_26:=row_gr rk_25 hg17 (by omega)
   have rF_26:=row_gr rF_25 hg17 (by omega)
   have rT_26:=row_gr rT_25 hg17 (by omega)
   have rX_26:=row_gr rX_25 hg17 (by omega)
   have rw13_26:=row_gr rw13_25 hg17 (by omega)
   have rw14_26:=row_gr rw14_25 hg17 (by omega)
   have r16_26:=row_gr r16 hg17 (by omega)
   have gr_26:=grown_trans gr_25 hg17
   have rd_26:Rd y17 R ao cap code i15:=Blk.below rd_25 bel17 (Blk.lt rd_25)
   clear kW_25 kF_25 kT_25 kO_25 rk_25 rF_25 rT_25 rX_25 rw13_25 rw14_25 r16 gr_25 rd_25
   clear hg17 bel17
   go_wp2_with fail
   refine hK.out _ _ (keep.out ⟨kO_26.cell 1 (by simp),kO_26.cell 6 (by simp)⟩) (fun hHeld=>?_)
   clear hK KQ
   try dsimp only [Act.put]
   refine tk (i:=11) (v:=(.pointer (some ⟨GO,5,none⟩))) rfl (Or.inl ⟨by rfl,?_⟩) hHeld ?_
   · intro _ _;go_simp
   dsimp only [Act.put,List.getElem_toArray,List.getElem_cons_zero,List.getElem_cons_succ]
   simp only [List.setIfInBounds_toArray,List.set_cons_succ,List.set_cons_zero]
   refine rdy1 12 (fun KQ hK=>?_)
   have sc:=kO_26.cell 5 (by simp)
   have sf:=kO_26.free 5
   go_simp
   clear sc sf
   obtain ⟨X15,hX15⟩:∃ x,x = World.setCell y17 ⟨GO,5,none⟩ (.slice (some ⟨g17,0,none⟩) 8 c17):=⟨_,rfl⟩
   have gsX15:y17.grownBy X15 (some GO):=by rw [hX15];exact gr_set _ _ _
   have kOX15:Blk X15 GO 24 [(.slice (some ⟨gw13,0,none⟩) 36 cw13),(.int .i64 (ff:Int)),(.slice (some ⟨gk,0,none⟩) 10 ck),(.slice (some ⟨gw14,0,none⟩) 36 cw14),(.int .i64 (tf:Int)),(.slice (some ⟨g17,0,none⟩) 8 c17),(.string pan),(.slice none 0 0)]:=by rw [hX15];exact kO_26.set 5 _
   rw [← hX15]
   clear kO_26
   have kW_27:=kW_26.grown gsX15 (by simp only [ne_eq,Option.some.injEq];omega)
   have kF_27:=kF_26.grown gsX15 (by simp only [ne_eq,Option.some.injEq];omega)
   have kT_27:=kT_26.grown gsX15 (by simp only [ne_eq,Option.some.injEq];omega)
   have rk_27:=row_gr rk_26 gsX15 (by omega)
   have rF_27:=row_gr rF_26 gsX15 (by omega)
   have rT_27:=row_gr rT_26 gsX15 (by omega)
   have rX_27:=row_gr rX_26 gsX15 (by omega)
   have rw13_27:=row_gr rw13_26 gsX15 (by omega)
   have rw14_27:=row_gr rw14_26 gsX15 (by omega)
   have r17_27:=row_gr r17 gsX15 (by omega)
   have gr_27:=gr_new gr_26 gsX15 (by omega)
   have rd_27:Rd X15 R ao cap code i15:=Blk.grown rd_26 gsX15 (by simp only [ne_eq,Option.some.injEq];omega)
   clear kW_26 kF_26 kT_26 rk_26 rF_26 rT_26 rX_26 rw13_26 rw14_26 r17 gr_26 rd_26
   clear gsX15 hX15
   refine hK.out _ _ (keep.out ⟨kOX15.cell 1 (by simp),kOX15.cell 6 (by simp)⟩) (fun hHeld=>?_)
   clear hK KQ
   try dsimp only [Act.put]
   refine wpAnyH_done (by kernel_rfl) ?_ _
   clear hHeld keep s0
   go_wp2_with fail
   refine (HS.out i15 X15 hi15 (Blk.lt rd_27) (Hrow.out _ gr_27) rd_27).mono ?_
   rintro e y18 ⟨v18,dr,i18,rfl,hdr,own18,hi18,rd18,hg18⟩
   obtain ⟨g18,c18,hc18,rfl,row18,lo18,-⟩:=OwnB.own own18 |>.at' hdr (by omega)
   have r18:=row_of row18
   have l18:GO < g18:=by have:=kOX15.lt;omega
   clear own18 row18 rd_27
   have kW_28:=kW_27.grown hg18 (by simp only [ne_eq,Option.some.injEq];omega)
   have kF_28:=kF_27.grown hg18 (by simp only [ne_eq,Option.some.injEq];omega)
   have kT_28:=kT_27.grown hg18 (by simp only [ne_eq,Option.some.injEq];omega)
   have kO_28:=kOX15.grown hg18 (by simp only [ne_eq,Option.some.injEq];omega)
   have rk_28:=row_gr rk_27 hg18 (by omega)
   have rF_28:=row_gr rF_27 hg18 (by omega)
   have rT_28:=row_gr rT_27 hg18 (by omega)
   have rX_28:=row_gr rX_27 hg18 (by omega)
   have rw13_28:=row_gr rw13_27 hg18 (by omega)
   have rw14_28:=row_gr rw14_27 hg18 (by omega)
   have r17_28:=row_gr r17_27 hg18 (by omega)
   have gr_28:=grown_trans gr_27 hg18
   clear kW_27 kF_27 kT_27 kOX15 rk_27 rF_27 rT_27 rX_27 rw13_27 rw14_27 r17_27 gr_27
   clear hg18
   have sc:=kO_28.cell 7 (by simp)
   have sf:=kO_28.free 7
   go_upto_region 17 with fail
   clear sc sf
   obtain ⟨X16,hX16⟩:∃ x,x = World.setCell y18 ⟨GO,7,none⟩ (.slice (some ⟨g18,0,none⟩) 10 c18):=⟨_,rfl⟩
   have gsX16:y18.grownBy X16 (some GO):=by rw [hX16];exact gr_set _ _ _
   have kOX16:Blk X16 GO 24 [(.slice (some ⟨gw13,0,none⟩) 36 cw13),(.int .i64 (ff:Int)),(.slice (some ⟨gk,0,none⟩) 10 ck),(.slice (some ⟨gw14,0,none⟩) 36 cw14),(.int .i64 (tf:Int)),(.slice (some ⟨g17,0,none⟩) 8 c17),(.string pan),(.slice (some ⟨g18,0,none⟩) 10 c18)]:=by rw [hX16];exact kO_28.set 7 _
   rw [← hX16]
   clear kO_28
   have kW_29:=kW_28.grown gsX16 (by simp only [ne_eq,Option.some.injEq];omega)
   have kF_29:=kF_28.grown gsX16 (by simp only [ne_eq,Option.some.injEq];omega)
   have kT_29:=kT_28.grown gsX16 (by simp only [ne_eq,Option.some.injEq];omega)
   have rk_29:=row_gr rk_28 gsX16 (by omega)
   have rF_29:=row_gr rF_28 gsX16 (by omega)
   have rT_29:=row_gr rT_28 gsX16 (by omega)
   have rX_29:=row_gr rX_28 gsX16 (by omega)
   have rw13_29:=row_gr rw13_28 gsX16 (by omega)
   have rw14_29:=row_gr rw14_28 gsX16 (by omega)
   have r17_29:=row_gr r17_28 gsX16 (by omega)
   have r18_29:=row_gr r18 gsX16 (by omega)
   have gr_29:=gr_new gr_28 gsX16 (by omega)
   have rd_29:Rd X16 R ao cap code i18:=Blk.grown rd18 gsX16 (by simp only [ne_eq,Option.some.injEq];omega)
   clear kW_28 kF_28 kT_28 rk_28 rF_28 rT_28 rX_28 rw13_28 rw14_28 r17_28 r18 gr_28 rd18
   clear gsX16 hX16
   go_wp2_with (first
     | (refine load_blk rfl 24 _ rfl GO rfl kOX16 Tryz.underlying24 rfl (by kernel_rfl) ?_)
     | (refine store_blk rfl 24 _ _ rfl w.heap.size rfl rfl kW_29 (by kernel_rfl) rfl (by kernel_rfl) ?_;intro w7 hb7 hg7 hs7))
   exact ⟨rfl,_,results_blk_tmp Tryz.results23 _ _ rfl hb7 Tryz.underlying24 rfl (by kernel_rfl),⟨_,pin,rfl,⟨⟨Fk,Tk,ks,d1,dr,3,gnF,gnT,ff,tf,pan,some ⟨gk,0,none⟩,gw13,cw13,ck,gw14,cw14,g17,c17,g18,c18,by rw [hks],⟨hlF,hlT,hd1,hdr⟩,.inr ⟨rfl,hks⟩,⟨hgnF,hgnT⟩,hff,htf,⟨pl4,pl12,pdg⟩,⟨ql13,ql19,qdg⟩,⟨hcw13,by omega,hcw14,hc17,hc18⟩,⟨by omega,by omega,by omega,by omega,by intro a ha;cases ha;show w.heap.size ≤ gk;omega⟩,row_gr rw13_29 hg7 (by omega),row_gr rk_29 hg7 (by omega),row_gr rw14_29 hg7 (by omega),by rw [if_pos rfl,← show KX = _ from HKX];exact row_gr r17_29 hg7 (by omega),row_gr r18_29 hg7 (by omega)⟩⟩,gr_new gr_29 hg7 (Nat.le_refl _)⟩⟩
 · have hcm:(c:Int) % 2 = 0:=by omega
   have hcm2:(c:Int).tmod 2 = 0:=by rw [Int.tmod_eq_emod_of_nonneg (by omega)];exact hcm
   clear hodd
   go_wp2_with fail
   refine (HKy.out 1 i5 Y hi5 (Blk.lt rdY) (Hrow.out _ gr_6) rdY).mono ?_
   rintro e y7 ⟨gnF,gF,cF,Fk,i7,rfl,hgnF,hlF,hcF,loF,rF,hi7,rd7,hg7⟩
   have lF:GO < gF:=by have:=kO.lt;omega
   clear rdY
   have kW_7:=kW_6.grown hg7 (by simp only [ne_eq,Option.some.injEq];omega)
   have kO_7:=kO.grown hg7 (by simp only [ne_eq,Option.some.injEq];omega)
   have gr_7:=grown_trans gr_6 hg7
   clear kW_6 kO gr_6
   clear hg7
   obtain ⟨ZF,hZF⟩:∃ x,x = y7.alloc (.cells ([.int .i64 1,.int .i64 (gnF:Int),.slice (some ⟨gF,0,none⟩) 16 cF]:List Value).toArray 31):=⟨_,rfl⟩
   have kF:Blk ZF y7.heap.size 31 [.int .i64 1,.int .i64 (gnF:Int),.slice (some ⟨gF,0,none⟩) 16 cF]:=by rw [hZF];exact Blk.new _ _ _
   have bZF:Below y7.heap.size y7 ZF:=by rw [hZF];exact below_new _ _
   have hgZF:=grown_of_below bZF (some R)
   have lBF:GO < y7.heap.size:=kO_7.lt
   have rdZF:Rd ZF R ao cap code i7:=Blk.below rd7 bZF (Blk.lt rd7)
   clear rd7
   have kW_8:=kW_7.grown hgZF (by simp only [ne_eq,Option.some.injEq];omega)
   have kO_8:=kO_7.grown hgZF (by simp only [ne_eq,Option.some.injEq];omega)
   have rF_8:=row_gr rF hgZF (by omega)
   have gr_8:=grown_trans gr_7 hgZF
   clear kW_7 kO_7 rF gr_7
   obtain ⟨BF,hBF⟩:∃ x,x = y7.heap.size:=⟨_,rfl⟩
   rw [← hBF] at kF lBF
   have HBF:=hide hBF
   have HZF:=hide hZF
   clear hgZF bZF hBF hZF
   go_upto_region 9 with fail
   rw [← show ZF = _ from HZF,← show BF = _ from HBF]
   clear HZF HBF
   go_wp2_with fail
   refine (HKy.out 1 i7 ZF hi7 (Blk.lt rdZF) (Hrow.out _ gr_8) rdZF).mono ?_
   rintro e y8 ⟨gnT,gT,cT,Tk,i8,rfl,hgnT,hlT,hcT,loT,rT,hi8,rd8,hg8⟩
   have lT:GO < gT:=by have:=kO_8.lt;omega
   clear rdZF
   have kW_9:=kW_8.grown hg8 (by simp only [ne_eq,Option.some.injEq];omega)
   have kO_9:=kO_8.grown hg8 (by simp only [ne_eq,Option.some.injEq];omega)
   have kF_9:=kF.grown hg8 (by simp only [ne_eq,Option.some.injEq];omega)
   have rF_9:=row_gr rF_8 hg8 (by omega)
   have gr_9:=grown_trans gr_8 hg8
   clear kW_8 kO_8 kF rF_8 gr_8
   clear hg8
   obtain ⟨ZT,hZT⟩:∃ x,x = y8.alloc (.cells ([.int .i64 1,.int .i64 (gnT:Int),.slice (some ⟨gT,0,none⟩) 16 cT]:List Value).toArray 31):=⟨_,rfl⟩
   have kT:Blk ZT y8.heap.size 31 [.int .i64 1,.int .i64 (gnT:Int),.slice (some ⟨gT,0,none⟩) 16 cT]:=by rw [hZT];exact Blk.new _ _ _
   have bZT:Below y8.heap.size y8 ZT:=by rw [hZT];exact below_new _ _
   have hgZT:=grown_of_below bZT (some R)
   have lBT:GO < y8.heap.size:=kO_9.lt
   have rdZT:Rd ZT R ao cap code i8:=Blk.below rd8 bZT (Blk.lt rd8)
   clear rd8
   have kW_10:=kW_9.grown hgZT (by simp only [ne_eq,Option.some.injEq];omega)
   have kO_10:=kO_9.grown hgZT (by simp only [ne_eq,Option.some.injEq];omega)
   have kF_10:=kF_9.grown hgZT (by simp only [ne_eq,Option.some.injEq];omega)
   have rF_10:=row_gr rF_9 hgZT (by omega)
   have rT_10:=row_gr rT hgZT (by omega)
   have gr_10:=grown_trans gr_9 hgZT
   clear kW_9 kO_9 kF_9 rF_9 rT gr_9
   obtain ⟨BT,hBT⟩:∃ x,x = y8.heap.size:=⟨_,rfl⟩
   rw [← hBT] at kT lBT
   have HBT:=hide hBT
   have HZT:=hide hZT
   clear hgZT bZT hBT hZT
   go_upto_region 10 with fail
   rw [← show ZT = _ from HZT,← show BT = _ from HBT]
   clear HZT HBT
   have d2:=kF_10.cell 2 (by simp)
   go_upto_region 13 with fail
   clear d2
   obtain ⟨V13,hV13⟩:∃ V,V = World.drew ZT:=⟨_,rfl⟩
   have bV13:Below ZT.heap.size ZT V13:=by rw [hV13];exact (Below.refl _ _).drew
   have hgV13:=grown_of_below bV13 (some R)
   have kW_11:=kW_10.grown hgV13 (by simp only [ne_eq,Option.some.injEq];omega)
   have kO_11:=kO_10.grown hgV13 (by simp only [ne_eq,Option.some.injEq];omega)
   have kF_11:=kF_10.grown hgV13 (by simp only [ne_eq,Option.some.injEq];omega)
   have kT_11:=kT.grown hgV13 (by simp only [ne_eq,Option.some.injEq];omega)
   have rF_11:=row_gr rF_10 hgV13 (by omega)
   have rT_11:=row_gr rT_10 hgV13 (by omega)
   have gr_11:=grown_trans gr_10 hgV13
   have rd_11:Rd V13 R ao cap code i8:=Blk.below rdZT bV13 (Blk.lt rdZT)
   clear kW_10 kO_10 kF_10 kT rF_10 rT_10 gr_10 rdZT
   have keep:Hid (∀ {P:Prop},P → P):=fun h=>h
   have s0:V13.rangeAt BF 0 [.int .i64 1,.int .i64 (gnF:Int),.slice (some ⟨gF,0,none⟩) 16 cF]:=blk_whole kF_11
   refine wp_region_held_drew (S:=fun x=>x.rangeAt BF 0 [.int .i64 1,.int .i64 (gnF:Int),.slice (some ⟨gF,0,none⟩) 16 cF]) (by kernel_rfl) (by rw [← hV13];exact s0) (fun hHeld=>?_)
   rw [← hV13] at hHeld ⊢
   clear hV13 bV13 hgV13
   refine tk (i:=1) (v:=(.agg ([.int .i64 1,.int .i64 (gnF:Int),.slice (some ⟨gF,0,none⟩) 16 cF]:List Value).toArray)) rfl (yieldsIf_load_mid (by rfl) 31 _ rfl BF 0 rfl ([.int .i64 1,.int .i64 (gnF:Int),.slice (some ⟨gF,0,none⟩) 16 cF]) _ (fun _ h=>h) Tryz.underlying31 rfl (by kernel_rfl)) hHeld ?_
   dsimp only [Act.put,List.getElem_toArray,List.getElem_cons_zero,List.getElem_cons_succ]
   simp only [List.setIfInBounds_toArray,List.set_cons_succ,List.set_cons_zero]
   refine rdy1 0 (fun KQ hK=>?_)
   go_simp
   refine (master_any V13).mono ?_
   rintro e q13 ⟨gm13,rfl,lom13,-,rm13,belm13⟩
   have hgm13:=grown_of_below belm13 (some R)
   have lgm13:GO < gm13:=by have:=kO_11.lt;omega
   have kW_12:=kW_11.grown hgm13 (by simp only [ne_eq,Option.some.injEq];omega)
   have kO_12:=kO_11.grown hgm13 (by simp only [ne_eq,Option.some.injEq];omega)
   have kF_12:=kF_11.grown hgm13 (by simp only [ne_eq,Option.some.injEq];omega)
   have kT_12:=kT_11.grown hgm13 (by simp only [ne_eq,Option.some.injEq];omega)
   have rF_12:=row_gr rF_11 hgm13 (by omega)
   have rT_12:=row_gr rT_11 hgm13 (by omega)
   have gr_12:=grown_trans gr_11 hgm13
   have rd_12:Rd q13 R ao cap code i8:=Blk.below rd_11 belm13 (Blk.lt rd_11)
   clear kW_11 kO_11 kF_11 kT_11 rF_11 rT_11 gr_11 rd_11
   clear hgm13 belm13
   go_wp2_with fail
   refine hK.out _ _ (keep.out (blk_whole kF_12)) (fun hHeld=>?_)
   clear hK KQ
   try dsimp only [Act.put]
   refine rdy1 2 (fun KQ hK=>?_)
   go_simp
   have HWr:=hide (wrapS_all masterL Fk 1 (gnF:Int) (some ⟨gm13,0,none⟩) (some ⟨gF,0,none⟩) 16 cF q13 (by decide) (by omega) rm13 rF_12)
   rw [show masterL.length = 16 from rfl,hlF] at HWr
   refine HWr.out.mono ?_
   rintro e z13 ⟨vw13,rfl,ow13,belw13⟩
   have hwl13:(wrapL masterL Fk 1 (gnF:Int)).length = 36:=wrap36 _ _ _ _ ⟨rfl,hlF,by omega,by omega,by omega,by omega⟩
   obtain ⟨gw13,cw13,hcw13,rfl,roww13,low13,-⟩:=ow13.at' hwl13 (by omega)
   have hgw13:=grown_of_below belw13 (some R)
   have rw13:=row_of roww13
   have lgw13:GO < gw13:=by have:=kO_12.lt;omega
   clear ow13 roww13 HWr
   have kW_13:=kW_12.grown hgw13 (by simp only [ne_eq,Option.some.injEq];omega)
   have kO_13:=kO_12.grown hgw13 (by simp only [ne_eq,Option.some.injEq];omega)
   have kF_13:=kF_12.grown hgw13 (by simp only [ne_eq,Option.some.injEq];omega)
   have kT_13:=kT_12.grown hgw13 (by simp only [ne_eq,Option.some.injEq];omega)
   have rF_13:=row_gr rF_12 hgw13 (by omega)
   have rT_13:=row_gr rT_12 hgw13 (by omega)
   have rm13_13:=row_gr rm13 hgw13 (by omega)
   have gr_13:=grown_trans gr_12 hgw13
   have rd_13:Rd z13 R ao cap code i8:=Blk.below rd_12 belw13 (Blk.lt rd_12)
   clear kW_12 kO_12 kF_12 kT_12 rF_12 rT_12 rm13 gr_12 rd_12
   clear hgw13 hwl13 belw13
   go_wp2_with fail
   refine hK.out _ _ (keep.out (blk_whole kF_13)) (fun hHeld=>?_)
   clear hK KQ
   try dsimp only [Act.put]
   refine tk (i:=3) (v:=(.pointer (some ⟨GO,0,none⟩))) rfl (Or.inl ⟨by rfl,?_⟩) hHeld ?_
   · intro _ _;go_simp
   dsimp only [Act.put,List.getElem_toArray,List.getElem_cons_zero,List.getElem_cons_succ]
   simp only [List.setIfInBounds_toArray,List.set_cons_succ,List.set_cons_zero]
   refine rdy1 4 (fun KQ hK=>?_)
   have sc:=kO_13.cell 0 (by simp)
   have sf:=kO_13.free 0
   go_simp
   clear sc sf
   obtain ⟨X13,hX13⟩:∃ x,x = World.setCell z13 ⟨GO,0,none⟩ (.slice (some ⟨gw13,0,none⟩) 36 cw13):=⟨_,rfl⟩
   have gsX13:z13.grownBy X13 (some GO):=by rw [hX13];exact gr_set _ _ _
   have kOX13:Blk X13 GO 24 [(.slice (some ⟨gw13,0,none⟩) 36 cw13),(.int .i64 (ff:Int)),(.slice none 0 0),(.slice none 0 0),(.int .i64 (tf:Int)),(.slice none 0 0),(.string pan),(.slice none 0 0)]:=by rw [hX13];exact kO_13.set 0 _
   rw [← hX13]
   clear kO_13
   have kW_14:=kW_13.grown gsX13 (by simp only [ne_eq,Option.some.injEq];omega)
   have kF_14:=kF_13.grown gsX13 (by simp only [ne_eq,Option.some.injEq];omega)
   have kT_14:=kT_13.grown gsX13 (by simp only [ne_eq,Option.some.injEq];omega)
   have rF_14:=row_gr rF_13 gsX13 (by omega)
   have rT_14:=row_gr rT_13 gsX13 (by omega)
   have rw13_14:=row_gr rw13 gsX13 (by omega)
   have gr_14:=gr_new gr_13 gsX13 (by omega)
   have rd_14:Rd X13 R ao cap code i8:=Blk.grown rd_13 gsX13 (by simp only [ne_eq,Option.some.injEq];omega)
   clear kW_13 kF_13 kT_13 rF_13 rT_13 rw13 gr_13 rd_13
   clear gsX13 hX13
   refine hK.out _ _ (keep.out (blk_whole kF_14)) (fun hHeld=>?_)
   clear hK KQ
   try dsimp only [Act.put]
   refine wpAnyH_done (by kernel_rfl) ?_ _
   clear hHeld keep s0
   go_upto_region 14 with fail
   obtain ⟨V14,hV14⟩:∃ V,V = World.drew X13:=⟨_,rfl⟩
   have bV14:Below X13.heap.size X13 V14:=by rw [hV14];exact (Below.refl _ _).drew
   have hgV14:=grown_of_below bV14 (some R)
   have kW_15:=kW_14.grown hgV14 (by simp only [ne_eq,Option.some.injEq];omega)
   have kF_15:=kF_14.grown hgV14 (by simp only [ne_eq,Option.some.injEq];omega)
   have kT_15:=kT_14.grown hgV14 (by simp only [ne_eq,Option.some.injEq];omega)
   have kO_15:=kOX13.grown hgV14 (by simp only [ne_eq,Option.some.injEq];omega)
   have rF_15:=row_gr rF_14 hgV14 (by omega)
   have rT_15:=row_gr rT_14 hgV14 (by omega)
   have rw13_15:=row_gr rw13_14 hgV14 (by omega)
   have gr_15:=grown_trans gr_14 hgV14
   have rd_15:Rd V14 R ao cap code i8:=Blk.below rd_14 bV14 (Blk.lt rd_14)
   clear kW_14 kF_14 kT_14 kOX13 rF_14 rT_14 rw13_14 gr_14 rd_14
   have keep:Hid (∀ {P:Prop},P → P):=fun h=>h
   have s0:V14.rangeAt BT 0 [.int .i64 1,.int .i64 (gnT:Int),.slice (some ⟨gT,0,none⟩) 16 cT]:=blk_whole kT_15
   refine wp_region_held_drew (S:=fun x=>x.rangeAt BT 0 [.int .i64 1,.int .i64 (gnT:Int),.slice (some ⟨gT,0,none⟩) 16 cT]) (by kernel_rfl) (by rw [← hV14];exact s0) (fun hHeld=>?_)
   rw [← hV14] at hHeld ⊢
   clear hV14 bV14 hgV14
   refine tk (i:=1) (v:=(.agg ([.int .i64 1,.int .i64 (gnT:Int),.slice (some ⟨gT,0,none⟩) 16 cT]:List Value).toArray)) rfl (yieldsIf_load_mid (by rfl) 31 _ rfl BT 0 rfl ([.int .i64 1,.int .i64 (gnT:Int),.slice (some ⟨gT,0,none⟩) 16 cT]) _ (fun _ h=>h) Tryz.underlying31 rfl (by kernel_rfl)) hHeld ?_
   dsimp only [Act.put,List.getElem_toArray,List.getElem_cons_zero,List.getElem_cons_succ]
   simp only [List.setIfInBounds_toArray,List.set_cons_succ,List.set_cons_zero]
   refine rdy1 0 (fun KQ hK=>?_)
   go_simp
   refine (master_any V14).mono ?_
   rintro e q14 ⟨gm14,rfl,lom14,-,rm14,belm14⟩
   have hgm14:=grown_of_below belm14 (some R)
   have lgm14:GO < gm14:=by have:=kO_15.lt;omega
   have kW_16:=kW_15.grown hgm14 (by simp only [ne_eq,Option.some.injEq];omega)
   have kF_16:=kF_15.grown hgm14 (by simp only [ne_eq,Option.some.injEq];omega)
   have kT_16:=kT_15.grown hgm14 (by simp only [ne_eq,Option.some.injEq];omega)
   have kO_16:=kO_15.grown hgm14 (by simp only [ne_eq,Option.some.injEq];omega)
   have rF_16:=row_gr rF_15 hgm14 (by omega)
   have rT_16:=row_gr rT_15 hgm14 (by omega)
   have rw13_16:=row_gr rw13_15 hgm14 (by omega)
   have gr_16:=grown_trans gr_15 hgm14
   have rd_16:Rd q14 R ao cap code i8:=Blk.below rd_15 belm14 (Blk.lt rd_15)
   clear kW_15 kF_15 kT_15 kO_15 rF_15 rT_15 rw13_15 gr_15 rd_15
   clear hgm14 belm14
   go_wp2_with fail
   refine hK.out _ _ (keep.out (blk_whole kT_16)) (fun hHeld=>?_)
   clear hK KQ
   try dsimp only [Act.put]
   refine rdy1 2 (fun KQ hK=>?_)
   go_simp
   have HWr:=hide (wrapS_all masterL Tk 1 (gnT:Int) (some ⟨gm14,0,none⟩) (some ⟨gT,0,none⟩) 16 cT q14 (by decide) (by omega) rm14 rT_16)
   rw [show masterL.length = 16 from rfl,hlT] at HWr
   refine HWr.out.mono ?_
   rintro e z14 ⟨vw14,rfl,ow14,belw14⟩
   have hwl14:(wrapL masterL Tk 1 (gnT:Int)).length = 36:=wrap36 _ _ _ _ ⟨rfl,hlT,by omega,by omega,by omega,by omega⟩
   obtain ⟨gw14,cw14,hcw14,rfl,roww14,low14,-⟩:=ow14.at' hwl14 (by omega)
   have hgw14:=grown_of_below belw14 (some R)
   have rw14:=row_of roww14
   have lgw14:GO < gw14:=by have:=kO_16.lt;omega
   clear ow14 roww14 HWr
   have kW_17:=kW_16.grown hgw14 (by simp only [ne_eq,Option.some.injEq];omega)
   have kF_17:=kF_16.grown hgw14 (by simp only [ne_eq,Option.some.injEq];omega)
   have kT_17:=kT_16.grown hgw14 (by simp only [ne_eq,Option.some.injEq];omega)
   have kO_17:=kO_16.grown hgw14 (by simp only [ne_eq,Option.some.injEq];omega)
   have rF_17:=row_gr rF_16 hgw14 (by omega)
   have rT_17:=row_gr rT_16 hgw14 (by omega)
   have rw13_17:=row_gr rw13_16 hgw14 (by omega)
   have rm14_17:=row_gr rm14 hgw14 (by omega)
   have gr_17:=grown_trans gr_16 hgw14
   have rd_17:Rd z14 R ao cap code i8:=Blk.below rd_16 belw14 (Blk.lt rd_16)
   clear kW_16 kF_16 kT_16 kO_16 rF_16 rT_16 rw13_16 rm14 gr_16 rd_16
   clear hgw14 hwl14 belw14
   go_wp2_with fail
   refine hK.out _ _ (keep.out (blk_whole kT_17)) (fun hHeld=>?_)
   clear hK KQ
   try dsimp only [Act.put]
   refine tk (i:=3) (v:=(.pointer (some ⟨GO,3,none⟩))) rfl (Or.inl ⟨by rfl,?_⟩) hHeld ?_
   · intro _ _;go_simp
   dsimp only [Act.put,List.getElem_toArray,List.getElem_cons_zero,List.getElem_cons_succ]
   simp only [List.setIfInBounds_toArray,List.set_cons_succ,List.set_cons_zero]
   refine rdy1 4 (fun KQ hK=>?_)
   have sc:=kO_17.cell 3 (by simp)
   have sf:=kO_17.free 3
   go_simp
   clear sc sf
   obtain ⟨X14,hX14⟩:∃ x,x = World.setCell z14 ⟨GO,3,none⟩ (.slice (some ⟨gw14,0,none⟩) 36 cw14):=⟨_,rfl⟩
   have gsX14:z14.grownBy X14 (some GO):=by rw [hX14];exact gr_set _ _ _
   have kOX14:Blk X14 GO 24 [(.slice (some ⟨gw13,0,none⟩) 36 cw13),(.int .i64 (ff:Int)),(.slice none 0 0),(.slice (some ⟨gw14,0,none⟩) 36 cw14),(.int .i64 (tf:Int)),(.slice none 0 0),(.string pan),(.slice none 0 0)]:=by rw [hX14];exact kO_17.set 3 _
   rw [← hX14]
   clear kO_17
   have kW_18:=kW_17.grown gsX14 (by simp only [ne_eq,Option.some.injEq];omega)
   have kF_18:=kF_17.grown gsX14 (by simp only [ne_eq,Option.some.injEq];omega)
   have kT_18:=kT_17.grown gsX14 (by simp only [ne_eq,Option.some.injEq];omega)
   have rF_18:=row_gr rF_17 gsX14 (by omega)
   have rT_18:=row_gr rT_17 gsX14 (by omega)
   have rw13_18:=row_gr rw13_17 gsX14 (by omega)
   have rw14_18:=row_gr rw14 gsX14 (by omega)
   have gr_18:=gr_new gr_17 gsX14 (by omega)
   have rd_18:Rd X14 R ao cap code i8:=Blk.grown rd_17 gsX14 (by simp only [ne_eq,Option.some.injEq];omega)
   clear kW_17 kF_17 kT_17 rF_17 rT_17 rw13_17 rw14 gr_17 rd_17
   clear gsX14 hX14
   refine hK.out _ _ (keep.out (blk_whole kT_18)) (fun hHeld=>?_)
   clear hK KQ
   try dsimp only [Act.put]
   refine wpAnyH_done (by kernel_rfl) ?_ _
   clear hHeld keep s0
   go_upto_region 15 with fail
   obtain ⟨V15,hV15⟩:∃ V,V = World.drew X14:=⟨_,rfl⟩
   have bV15:Below X14.heap.size X14 V15:=by rw [hV15];exact (Below.refl _ _).drew
   have hgV15:=grown_of_below bV15 (some R)
   have kW_19:=kW_18.grown hgV15 (by simp only [ne_eq,Option.some.injEq];omega)
   have kF_19:=kF_18.grown hgV15 (by simp only [ne_eq,Option.some.injEq];omega)
   have kT_19:=kT_18.grown hgV15 (by simp only [ne_eq,Option.some.injEq];omega)
   have kO_19:=kOX14.grown hgV15 (by simp only [ne_eq,Option.some.injEq];omega)
   have rF_19:=row_gr rF_18 hgV15 (by omega)
   have rT_19:=row_gr rT_18 hgV15 (by omega)
   have rw13_19:=row_gr rw13_18 hgV15 (by omega)
   have rw14_19:=row_gr rw14_18 hgV15 (by omega)
   have gr_19:=grown_trans gr_18 hgV15
   have rd_19:Rd V15 R ao cap code i8:=Blk.below rd_18 bV15 (Blk.lt rd_18)
   clear kW_18 kF_18 kT_18 kOX14 rF_18 rT_18 rw13_18 rw14_18 gr_18 rd_18
   have keep:Hid (∀ {P:Prop},P → P):=fun h=>h
   have s0:V15.cell? ⟨GO,1,none⟩ = some (.int .i64 (ff:Int)) ∧ V15.cell? ⟨GO,6,none⟩ = some (.string pan):=⟨kO_19.cell 1 (by simp),kO_19.cell 6 (by simp)⟩
   refine wp_region_held_drew (S:=fun x=>x.cell? ⟨GO,1,none⟩ = some (.int .i64 (ff:Int)) ∧ x.cell? ⟨GO,6,none⟩ = some (.string pan)) (by kernel_rfl) (by rw [← hV15];exact s0) (fun hHeld=>?_)
   rw [← hV15] at hHeld ⊢
   clear hV15 bV15 hgV15
   refine tk (i:=0) (v:=(.slice (some ⟨gF,0,none⟩) 16 cF)) rfl (Or.inl ⟨by rfl,?_⟩) hHeld ?_
   · intro _ _;go_simp
   dsimp only [Act.put,List.getElem_toArray,List.getElem_cons_zero,List.getElem_cons_succ]
   simp only [List.setIfInBounds_toArray,List.set_cons_succ,List.set_cons_zero]
   refine tk (i:=1) (v:=(.pointer (some ⟨GO,1,none⟩))) rfl (Or.inl ⟨by rfl,?_⟩) hHeld ?_
   · intro _ _;go_simp
   dsimp only [Act.put,List.getElem_toArray,List.getElem_cons_zero,List.getElem_cons_succ]
   simp only [List.setIfInBounds_toArray,List.set_cons_succ,List.set_cons_zero]
   refine tk (i:=2) (v:=(.int .i64 (ff:Int))) rfl (Or.inl ⟨by rfl,fun w1 h=>by have hc:=h.1;go_simp⟩) hHeld ?_
   dsimp only [Act.put,List.getElem_toArray,List.getElem_cons_zero,List.getElem_cons_succ]
   simp only [List.setIfInBounds_toArray,List.set_cons_succ,List.set_cons_zero]
   refine tk (i:=3) (v:=(.string pin)) rfl (Or.inl ⟨by rfl,?_⟩) hHeld ?_
   · intro _ _;go_simp
   dsimp only [Act.put,List.getElem_toArray,List.getElem_cons_zero,List.getElem_cons_succ]
   simp only [List.setIfInBounds_toArray,List.set_cons_succ,List.set_cons_zero]
   refine tk (i:=4) (v:=(.pointer (some ⟨GO,6,none⟩))) rfl (Or.inl ⟨by rfl,?_⟩) hHeld ?_
   · intro _ _;go_simp
   dsimp only [Act.put,List.getElem_toArray,List.getElem_cons_zero,List.getElem_cons_succ]
   simp only [List.setIfInBounds_toArray,List.set_cons_succ,List.set_cons_zero]
   refine tk (i:=5) (v:=(.string pan)) rfl (Or.inl ⟨by rfl,fun w1 h=>by have hc:=h.2;go_simp⟩) hHeld ?_
   dsimp only [Act.put,List.getElem_toArray,List.getElem_cons_zero,List.getElem_cons_succ]
   simp only [List.setIfInBounds_toArray,List.set_cons_succ,List.set_cons_zero]
   refine tk (i:=6) (v:=(.pointer (some ⟨R,0,none⟩))) rfl (Or.inl ⟨by rfl,?_⟩) hHeld ?_
   · intro _ _;go_simp
   dsimp only [Act.put,List.getElem_toArray,List.getElem_cons_zero,List.getElem_cons_succ]
   simp only [List.setIfInBounds_toArray,List.set_cons_succ,List.set_cons_zero]
   refine rdy1 7 (fun KQ hK=>?_)
   go_simp
   refine (HS.out i8 V15 hi8 (Blk.lt rd_19) (Hrow.out _ gr_19) rd_19).mono ?_
   rintro e y15 ⟨v15,d1,i15,rfl,hd1,own15,hi15,rd15,hg15⟩
   obtain ⟨g15,c15,hc15,rfl,row15,lo15,-⟩:=OwnB.own own15 |>.at' hd1 (by omega)
   have r15:=row_of row15
   have l15:GO < g15:=by have:=kO_19.lt;omega
   clear own15 row15 rd_19
   have kW_20:=kW_19.grown hg15 (by simp only [ne_eq,Option.some.injEq];omega)
   have kF_20:=kF_19.grown hg15 (by simp only [ne_eq,Option.some.injEq];omega)
   have kT_20:=kT_19.grown hg15 (by simp only [ne_eq,Option.some.injEq];omega)
   have kO_20:=kO_19.grown hg15 (by simp only [ne_eq,Option.some.injEq];omega)
   have rF_20:=row_gr rF_19 hg15 (by omega)
   have rT_20:=row_gr rT_19 hg15 (by omega)
   have rw13_20:=row_gr rw13_19 hg15 (by omega)
   have rw14_20:=row_gr rw14_19 hg15 (by omega)
   have gr_20:=grown_trans gr_19 hg15
   clear kW_19 kF_19 kT_19 kO_19 rF_19 rT_19 rw13_19 rw14_19 gr_19
   clear hg15
   go_wp2_with fail
   refine hK.out _ _ (keep.out ⟨kO_20.cell 1 (by simp),kO_20.cell 6 (by simp)⟩) (fun hHeld=>?_)
   clear hK KQ
   try dsimp only [Act.put]
   refine rdy1 8 (fun KQ hK=>?_)
   go_simp
   have hgp:goodPin (ff:Int) pin pan = true:=goodPin_of hff pl4 pl12 pdg ql13 ql19 qdg
   have hmc:mkC (ff:Int) pin pan d1.length = 0:=mkC_ok hgp (by omega)
   have HMK:=hide ((make_any (ff:Int) pin pan d1 (by unfold maxLen;omega) (by unfold maxLen;omega) (by omega)).2 (some ⟨g15,0,none⟩) c15 y15 (by omega) r15)
   rw [hmc,hd1] at HMK
   refine HMK.out.mono ?_
   rintro e y16 ⟨v16,rfl,own16,bel16⟩
   have hml:=mkL_ok (ff:Int) pin pan d1 hmc
   obtain ⟨g16,c16,hc16,rfl,row16,lo16,-⟩:=own16.at' hml (by omega)
   have hg16:=grown_of_below bel16 (some R)
   have r16:=row_of row16
   have l16:GO < g16:=by have:=kO_20.lt;omega
   obtain ⟨mu,hmu⟩:∃ x,x = mkU (ff:Int) pin pan 10:=⟨_,rfl⟩
   rw [← hmu]
   clear own16 row16 HMK hmu hgp
   have kW_21:=kW_20.grown hg16 (by simp only [ne_eq,Option.some.injEq];omega)
   have kF_21:=kF_20.grown hg16 (by simp only [ne_eq,Option.some.injEq];omega)
   have kT_21:=kT_20.grown hg16 (by simp only [ne_eq,Option.some.injEq];omega)
   have kO_21:=kO_20.grown hg16 (by simp only [ne_eq,Option.some.injEq];omega)
   have rF_21:=row_gr rF_20 hg16 (by omega)
   have rT_21:=row_gr rT_20 hg16 (by omega)
   have rw13_21:=row_gr rw13_20 hg16 (by omega)
   have rw14_21:=row_gr rw14_20 hg16 (by omega)
   have r15_21:=row_gr r15 hg16 (by omega)
   have gr_21:=grown_trans gr_20 hg16
   have rd_21:Rd y16 R ao cap code i15:=Blk.below rd15 bel16 (Blk.lt rd15)
   clear kW_20 kF_20 kT_20 kO_20 rF_20 rT_20 rw13_20 rw14_20 r15 gr_20 rd15
   clear hg16 bel16
   go_wp2_with fail
   refine hK.out _ _ (keep.out ⟨kO_21.cell 1 (by simp),kO_21.cell 6 (by simp)⟩) (fun hHeld=>?_)
   clear hK KQ
   try dsimp only [Act.put]
   have hfd:=fun (wx:World)=>(show (Instr.field 40 (.agg #[.int .i64 0,.slice (some ⟨g16,0,none⟩) 8 c16,.int .i64 mu]) 1).run Tryz.prog wx = .ok (.slice (some ⟨g16,0,none⟩) 8 c16) wx by kernel_rfl)
   refine tk (i:=9) (v:=(.slice (some ⟨g16,0,none⟩) 8 c16)) rfl (Or.inl ⟨by rfl,?_⟩) hHeld ?_
   · intro _ _;go_simp
   dsimp only [Act.put,List.getElem_toArray,List.getElem_cons_zero,List.getElem_cons_succ]
   simp only [List.setIfInBounds_toArray,List.set_cons_succ,List.set_cons_zero]
   refine rdy1 10 (fun KQ hK=>?_)
   go_simp
   have HTD:=hide (specTdea_all Fk (mkL (ff:Int) pin pan d1) false (some ⟨gF,0,none⟩) (some ⟨g16,0,none⟩) cF c16 y16 (by have:=hlF;omega) (by omega) (by have:=hlF;omega) (by omega) rF_21 r16)
   rw [hlF,hml] at HTD
   refine HTD.out.mono ?_
   rintro e y17 ⟨v17,rfl,own17,bel17⟩
   have htl:(tdeaL Fk (mkL (ff:Int) pin pan d1) false).length = 8:=by unfold tdeaL;rw [if_pos ⟨hlF,hml⟩];exact tdeaL8 _ _ _ hlF hml
   obtain ⟨g17,c17,hc17,rfl,row17,lo17,-⟩:=own17.at' htl (by omega)
   have hg17:=grown_of_below bel17 (some R)
   have r17:=row_of row17
   have l17:GO < g17:=by have:=kO_21.lt;omega
   clear own17 row17 HTD htl
   have kW_22:=kW_21.grown hg17 (by simp only [ne_eq,Option.some.injEq];omega)
   have kF_22:=kF_21.grown hg17 (by simp only [ne_eq,Option.some.injEq];omega)
   have kT_22:=kT_21.grown hg17 (by simp only [ne_eq,Option.some.injEq];omega)
   have kO_22:=kO_21.grown hg17 (by simp only [ne_eq,Option.some.injEq];omega)
   have rF_22:=row_gr rF_21 hg17 (by omega)
   have rT_22:=row_gr rT_21 hg17 (by omega)
   have rw13_22:=row_gr rw13_21 hg17 (by omega)
   have rw14_22:=row_gr rw14_21 hg17 (by omega)
   have r16_22:=row_gr r16 hg17 (by omega)
   have gr_22:=grown_trans gr_21 hg17
   have rd_22:Rd y17 R ao cap code i15:=Blk.below rd_21 bel17 (Blk.lt rd_21)
   clear kW_21 kF_21 kT_21 kO_21 rF_21 rT_21 rw13_21 rw14_21 r16 gr_21 rd_21
   clear hg17 bel17
   go_wp2_with fail
   refine hK.out _ _ (keep.out ⟨kO_22.cell 1 (by simp),kO_22.cell 6 (by simp)⟩) (fun hHeld=>?_)
   clear hK KQ
   try dsimp only [Act.put]
   refine tk (i:=11) (v:=(.pointer (some ⟨GO,5,none⟩))) rfl (Or.inl ⟨by rfl,?_⟩) hHeld ?_
   · intro _ _;go_simp
   dsimp only [Act.put,List.getElem_toArray,List.getElem_cons_zero,List.getElem_cons_succ]
   simp only [List.setIfInBounds_toArray,List.set_cons_succ,List.set_cons_zero]
   refine rdy1 12 (fun KQ hK=>?_)
   have sc:=kO_22.cell 5 (by simp)
   have sf:=kO_22.free 5
   go_simp
   clear sc sf
   obtain ⟨X15,hX15⟩:∃ x,x = World.setCell y17 ⟨GO,5,none⟩ (.slice (some ⟨g17,0,none⟩) 8 c17):=⟨_,rfl⟩
   have gsX15:y17.grownBy X15 (some GO):=by rw [hX15];exact gr_set _ _ _
   have kOX15:Blk X15 GO 24 [(.slice (some ⟨gw13,0,none⟩) 36 cw13),(.int .i64 (ff:Int)),(.slice none 0 0),(.slice (some ⟨gw14,0,none⟩) 36 cw14),(.int .i64 (tf:Int)),(.slice (some ⟨g17,0,none⟩) 8 c17),(.string pan),(.slice none 0 0)]:=by rw [hX15];exact kO_22.set 5 _
   rw [← hX15]
   clear kO_22
   have kW_23:=kW_22.grown gsX15 (by simp only [ne_eq,Option.some.injEq];omega)
   have kF_23:=kF_22.grown gsX15 (by simp only [ne_eq,Option.some.injEq];omega)
   have kT_23:=kT_22.grown gsX15 (by simp only [ne_eq,Option.some.injEq];omega)
   have rF_23:=row_gr rF_22 gsX15 (by omega)
   have rT_23:=row_gr rT_22 gsX15 (by omega)
   have rw13_23:=row_gr rw13_22 gsX15 (by omega)
   have rw14_23:=row_gr rw14_22 gsX15 (by omega)
   have r17_23:=row_gr r17 gsX15 (by omega)
   have gr_23:=gr_new gr_22 gsX15 (by omega)
   have rd_23:Rd X15 R ao cap code i15:=Blk.grown rd_22 gsX15 (by simp only [ne_eq,Option.some.injEq];omega)
   clear kW_22 kF_22 kT_22 rF_22 rT_22 rw13_22 rw14_22 r17 gr_22 rd_22
   clear gsX15 hX15
   refine hK.out _ _ (keep.out ⟨kOX15.cell 1 (by simp),kOX15.cell 6 (by simp)⟩) (fun hHeld=>?_)
   clear hK KQ
   try dsimp only [Act.put]
   refine wpAnyH_done (by kernel_rfl) ?_ _
   clear hHeld keep s0
   go_wp2_with fail
   refine (HS.out i15 X15 hi15 (Blk.lt rd_23) (Hrow.out _ gr_23) rd_23).mono ?_
   rintro e y18 ⟨v18,dr,i18,rfl,hdr,own18,hi18,rd18,hg18⟩
   obtain ⟨g18,c18,hc18,rfl,row18,lo18,-⟩:=OwnB.own own18 |>.at' hdr (by omega)
   have r18:=row_of row18
   have l18:GO < g18:=by have:=kOX15.lt;omega
   clear own18 row18 rd_23
   have kW_24:=kW_23.grown hg18 (by simp only [ne_eq,Option.some.injEq];omega)
   have kF_24:=kF_23.grown hg18 (by simp only [ne_eq,Option.some.injEq];omega)
   have kT_24:=kT_23.grown hg18 (by simp only [ne_eq,Option.some.injEq];omega)
   have kO_24:=kOX15.grown hg18 (by simp only [ne_eq,Option.some.injEq];omega)
   have rF_24:=row_gr rF_23 hg18 (by omega)
   have rT_24:=row_gr rT_23 hg18 (by omega)
   have rw13_24:=row_gr rw13_23 hg18 (by omega)
   have rw14_24:=row_gr rw14_23 hg18 (by omega)
   have r17_24:=row_gr r17_23 hg18 (by omega)
   have gr_24:=grown_trans gr_23 hg18
   clear kW_23 kF_23 kT_23 kOX15 rF_23 rT_23 rw13_23 rw14_23 r17_23 gr_23
   clear hg18
   have sc:=kO_24.cell 7 (by simp)
   have sf:=kO_24.free 7
   go_upto_region 17 with fail
   clear sc sf
   obtain ⟨X16,hX16⟩:∃ x,x = World.setCell y18 ⟨GO,7,none⟩ (.slice (some ⟨g18,0,none⟩) 10 c18):=⟨_,rfl⟩
   have gsX16:y18.grownBy X16 (some GO):=by rw [hX16];exact gr_set _ _ _
   have kOX16:Blk X16 GO 24 [(.slice (some ⟨gw13,0,none⟩) 36 cw13),(.int .i64 (ff:Int)),(.slice none 0 0),(.slice (some ⟨gw14,0,none⟩) 36 cw14),(.int .i64 (tf:Int)),(.slice (some ⟨g17,0,none⟩) 8 c17),(.string pan),(.slice (some ⟨g18,0,none⟩) 10 c18)]:=by rw [hX16];exact kO_24.set 7 _
   rw [← hX16]
   clear kO_24
   have kW_25:=kW_24.grown gsX16 (by simp only [ne_eq,Option.some.injEq];omega)
   have kF_25:=kF_24.grown gsX16 (by simp only [ne_eq,Option.some.injEq];omega)
   have kT_25:=kT_24.grown gsX16 (by simp only [ne_eq,Option.some.injEq];omega)
   have rF_25:=row_gr rF_24 gsX16 (by omega)
   have rT_25:=row_gr rT_24 gsX16 (by omega)
   have rw13_25:=row_gr rw13_24 gsX16 (by omega)
   have rw14_25:=row_gr rw14_24 gsX16 (by omega)
   have r17_25:=row_gr r17_24 gsX16 (by omega)
   have r18_25:=row_gr r18 gsX16 (by omega)
   have gr_25:=gr_new gr_24 gsX16 (by omega)
   have rd_25:Rd X16 R ao cap code i18:=Blk.grown rd18 gsX16 (by simp only [ne_eq,Option.some.injEq];omega)
   clear kW_24 kF_24 kT_24 rF_24 rT_24 rw13_24 rw14_24 r17_24 r18 gr_24 rd18
   clear gsX16 hX16
   go_wp2_with (first
     | (refine load_blk rfl 24 _ rfl GO rfl kOX16 Tryz.underlying24 rfl (by kernel_rfl) ?_)
     | (refine store_blk rfl 24 _ _ rfl w.heap.size rfl rfl kW_25 (by kernel_rfl) rfl (by kernel_rfl) ?_;intro w7 hb7 hg7 hs7))
   exact ⟨rfl,_,results_blk_tmp Tryz.results23 _ _ rfl hb7 Tryz.underlying24 rfl (by kernel_rfl),⟨_,pin,rfl,⟨⟨Fk,Tk,[],d1,dr,1,gnF,gnT,ff,tf,pan,none,gw13,cw13,0,gw14,cw14,g17,c17,g18,c18,rfl,⟨hlF,hlT,hd1,hdr⟩,.inl ⟨rfl,rfl⟩,⟨hgnF,hgnT⟩,hff,htf,⟨pl4,pl12,pdg⟩,⟨ql13,ql19,qdg⟩,⟨hcw13,Nat.le_refl _,hcw14,hc17,hc18⟩,⟨by omega,by omega,by omega,by omega,by intro a ha;cases ha⟩,row_gr rw13_25 hg7 (by omega),.inl rfl,row_gr rw14_25 hg7 (by omega),by rw [if_neg (by omega)];exact row_gr r17_25 hg7 (by omega),row_gr r18_25 hg7 (by omega)⟩⟩,gr_new gr_25 hg7 (Nat.le_refl _)⟩⟩
theorem Drawn.mono {x y:World} {lo lo2:Nat} {v:Value} {pin:ByteArray} (h:Drawn x lo v pin) (hb:Below x.heap.size x y) (hl:lo2 ≤ lo):Drawn y lo2 v pin:=by
 obtain ⟨fk,tk,ks,d1,dr,use,gf,gt,ff,tf,pan,ak,g1,c1,ck,g3,c3,g5,c5,g7,c7,e,hl4,hu,hg,hff,htf,hpin,hpan,hcs,⟨q1,q3,q5,q7,qk⟩,r1,rk,r3,r5,r7⟩:=h.ex
 exact ⟨⟨fk,tk,ks,d1,dr,use,gf,gt,ff,tf,pan,ak,g1,c1,ck,g3,c3,g5,c5,g7,c7,e,hl4,hu,hg,hff,htf,hpin,hpan,hcs,⟨by omega,by omega,by omega,by omega,fun a ha=>Nat.le_trans hl (qk a ha)⟩,r1.below hb,rk.below hb,r3.below hb,r5.below hb,r7.below hb⟩⟩
theorem Drawn.agg {x:World} {lo:Nat} {v:Value} {pin:ByteArray} (h:Drawn x lo v pin):∃ cs:List Value,v = .agg cs.toArray ∧ cs.length = 8 ∧ cs.toArray.all (·.oneCell') = true:=by
 obtain ⟨fk,tk,ks,d1,dr,use,gf,gt,ff,tf,pan,ak,g1,c1,ck,g3,c3,g5,c5,g7,c7,e,-⟩:=h.ex
 exact ⟨[_,_,_,_,_,_,_,_],e,rfl,by kernel_rfl⟩
theorem Drawn.grown {x y:World} {lo g:Nat} {v:Value} {pin:ByteArray} (h:Drawn x lo v pin) (hg:x.grownBy y (some g)) (hlt:g < lo):Drawn y lo v pin:=by
 obtain ⟨fk,tk,ks,d1,dr,use,gf,gt,ff,tf,pan,ak,g1,c1,ck,g3,c3,g5,c5,g7,c7,e,hl4,hu,hgg,hff,htf,hpin,hpan,hcs,⟨q1,q3,q5,q7,qk⟩,r1,rk,r3,r5,r7⟩:=h.ex
 exact ⟨⟨fk,tk,ks,d1,dr,use,gf,gt,ff,tf,pan,ak,g1,c1,ck,g3,c3,g5,c5,g7,c7,e,hl4,hu,hgg,hff,htf,hpin,hpan,hcs,⟨q1,q3,q5,q7,qk⟩,row_gr r1 hg (by omega),rk.grown hg (by intro a ha hc;have h1:=qk a ha;have h2:=Option.some.inj hc;omega),row_gr r3 hg (by omega),row_gr r5 hg (by omega),row_gr r7 hg (by omega)⟩⟩
theorem grown_setRowD (w:World) (g:Nat) (cs:Array Value):w.grownBy (w.setRow g cs) (some g):=⟨rfl,rfl,rfl,by simp,fun k _ hk=>setRow_other w g k _ (fun e=>hk (by simp [e]))⟩
theorem results_tct {P:Program} {fn:Func} {a p b ty:Nat} (h:fn.results = #[.tmp a,.cell p ty,.tmp b]) (tmps:Array Value) (w:World) {g t:Nat} {cs:List Value} {d:TypeDesc} (hp:tmps.getD p undef = .pointer (some ⟨g,0,none⟩)) (hb:Blk w g t cs)
   (hu:P.underlying ty = some d) (hd:(match d with | .struct _ | .array _ _=>true | _=>false) = true) (hi:(P.info? ty).map (·.size) = some cs.length):(results fn tmps).run P w = .ok (.tuple #[tmps.getD a undef,.agg cs.toArray,tmps.getD b undef]) w:=by
 have hp':tmps[p]?.getD undef = .pointer (some ⟨g,0,none⟩):=by simpa using hp
 simp [results,h,hp',asAddr,run_loadVar_row w g t ty cs.toArray (0,0) d hb hu hd (by simpa using hi)]
set_option maxRecDepth 100000 in
set_option maxHeartbeats 4000000 in
theorem drawOrder_any (ao:Option Addr) (cap:Nat) (code:List UInt8) (w:World) (hn:code.length ≤ 1048576) (hr:RowAt w ao code) :
   Calls Tryz.prog 5 #[.slice ao code.length cap] w fun e w'=>∃ (gm:Nat) (v:Value) (pin:ByteArray),e = .returned (.tuple #[.slice (some ⟨gm,0,none⟩) 16 16,v,.string pin]) ∧ RowAt w' (some ⟨gm,0,none⟩) masterL ∧ w.heap.size ≤ gm ∧ Drawn w' w.heap.size v pin ∧ Below w.heap.size w w':=by
 have hz:=(zero_of_info Tryz.zeroO8).1
 obtain ⟨R,hRe⟩:∃ R,R = w.heap.size + 1:=⟨_,rfl⟩
 obtain ⟨wA,hwA⟩:∃ x,x = (w.alloc (.cells zeroO8.toArray 24)).alloc (.cells #[.slice ao code.length cap,.int .i64 0] 57):=⟨_,rfl⟩
 have kA:Blk wA w.heap.size 24 zeroO8:=by rw [hwA];exact (Blk.new w _ _).alloc _
 have bA:Below w.heap.size w wA:=by rw [hwA];exact ((Below.refl _ w).alloc (Nat.le_refl _) _).alloc (by simp) _
 have hRA:Rd wA R ao cap code 0:=by rw [hwA,hRe];exact Blk.new2 w _ _ _
 have hRlt:R < wA.heap.size:=Blk.lt hRA
 have hne:code ≠ [] → ∀ a,ao = some a → a.block ≠ R:=by
   intro hc a ha h
   rcases hr with h0 | ⟨b,o,rfl,hcell⟩
   · exact hc h0
   · cases ha
     have:=RowAt.lt hcell (k:=0) (List.length_pos_iff.2 hc)
     have h':b = R:=h
     omega
 have HO:=hide (order_draw R ao cap code 0 wA hn (Nat.zero_le _) hRlt hne (hr.below bA) hRA)
 clear hne hRA
 go_enter Tryz.func5,Tryz.ntmps5
 go_wp2_with fail
 rw [← hwA,← hRe]
 clear hwA
 refine HO.out.mono ?_
 rintro e w1 ⟨v,pin,rfl,dr,hg1⟩
 have b1:Below w.heap.size w w1:=bA.grown hg1 bA.size (by intro k hk;cases hk;omega)
 have k1:=kA.grown hg1 (by simp only [ne_eq,Option.some.injEq];omega)
 obtain ⟨cs,rfl,hcs8,hc1⟩:=dr.agg
 have hs8:cs.toArray.size = 8:=by simpa using hcs8
 obtain ⟨W1,hW1⟩:∃ x,x = w1.alloc (.cells zeroO8.toArray 24):=⟨_,rfl⟩
 have kB0:Blk W1 w1.heap.size 24 zeroO8:=by rw [hW1];exact Blk.new _ _ _
 have b11:Below w1.heap.size w1 W1:=by rw [hW1];exact below_new _ _
 have k1':=k1.below b11 k1.lt
 have lw1:=k1.lt
 have bW1:=b1.trans (b11.mono b1.size)
 have dr1:=dr.mono b11 (Nat.le_refl _)
 clear hg1 HO kA bA k1' dr1 bW1
 go_wp2_with (rw [← hW1];refine store_blk rfl 24 _ _ rfl w1.heap.size rfl rfl kB0 (by rw [hcs8];kernel_rfl) (by rw [hcs8];rfl) hc1 ?_;intro w7 kB7 hg7 hs7)
 have b17:Below w1.heap.size w1 w7:=b11.grown hg7 b11.size (by intro k hk;cases hk;exact Nat.le_refl _)
 have k17:=k1.below b17 k1.lt
 have bw7:=b1.trans (b17.mono b1.size)
 have dr7:=dr.mono b17 (Nat.le_refl _)
 clear hW1 kB0 dr k1 b1 b11 hg7 hs7 b17
 obtain ⟨V,hV⟩:∃ V,V = World.drew w7:=⟨_,rfl⟩
 have kV:Blk V w.heap.size 24 zeroO8:=by rw [hV];exact k17.drew1
 have kBV:Blk V w1.heap.size 24 cs:=by rw [hV];exact kB7.drew1
 have bV:Below w.heap.size w V:=by rw [hV];exact bw7.drew
 have drV:=dr7.mono (show Below w7.heap.size w7 V by rw [hV];exact (Below.refl _ _).drew) (Nat.le_refl _)
 have lV:=kBV.lt
 obtain ⟨GB,hGB⟩:∃ x,x = w1.heap.size:=⟨_,rfl⟩
 rw [← hGB] at kBV lw1 lV ⊢
 clear k17 bw7 dr7 kB7 hGB
 have keep:Hid (∀ {P:Prop},P → P):=fun h=>h
 refine wp_region_held_drew (S:=fun x=>x.rangeAt GB 0 cs) (by kernel_rfl) (by rw [← hV];exact blk_whole kBV) (fun hHeld=>?_)
 rw [← hV] at hHeld ⊢
 clear hV
 refine tk (i:=1) (v:=(.agg cs.toArray)) rfl (yieldsIf_load_mid (by rfl) 24 _ rfl GB 0 rfl cs _ (fun _ h=>h) Tryz.underlying24 rfl (by rw [hcs8];kernel_rfl)) hHeld ?_
 dsimp only [Act.put,List.getElem_toArray,List.getElem_cons_zero,List.getElem_cons_succ]
 simp only [List.setIfInBounds_toArray,List.set_cons_succ,List.set_cons_zero]
 refine tk (i:=2) (v:=(.string pin)) rfl (Or.inl ⟨by rfl,?_⟩) hHeld ?_
 · intro _ _;go_simp
 dsimp only [Act.put,List.getElem_toArray,List.getElem_cons_zero,List.getElem_cons_succ]
 simp only [List.setIfInBounds_toArray,List.set_cons_succ,List.set_cons_zero]
 refine rdy1 0 (fun KQ hK=>?_)
 go_simp
 refine (master_any V).mono ?_
 rintro e w8 ⟨gm,rfl,lom,-,rm,belm⟩
 have k8:=kV.below belm kV.lt
 have kB8:=kBV.below belm lV
 have b8:=bV.trans (belm.mono bV.size)
 have dr8:=drV.mono belm (Nat.le_refl _)
 have lv8:=bV.size
 clear kV kBV bV drV belm
 go_wp2_with fail
 refine hK.out _ _ (keep.out (blk_whole kB8)) (fun hHeld=>?_)
 clear hK KQ
 try dsimp only [Act.put]
 refine rdy1 3 (fun KQ hK=>?_)
 go_simp
 refine hK.out _ _ (keep.out (blk_whole kB8)) (fun hHeld=>?_)
 clear hK KQ
 try dsimp only [Act.put]
 refine rdy1 4 (fun KQ hK=>?_)
 rw [if_pos (by rfl)]
 refine wp_store_blk rfl 24 _ _ rfl w.heap.size rfl rfl k8 (by rw [hcs8];kernel_rfl) (by rw [hcs8];rfl) hc1 ?_
 have kz:=Blk.setRow k8 cs
 have gz:=grown_setRowD w8 w.heap.size cs.toArray
 refine hK.out _ _ (keep.out (blk_whole (kB8.grown gz (by simp only [ne_eq,Option.some.injEq];omega)))) (fun hHeld=>?_)
 clear hK KQ
 try dsimp only [Act.put]
 refine rdy1 5 (fun KQ hK=>?_)
 go_simp
 refine hK.out _ _ (keep.out (blk_whole (kB8.grown gz (by simp only [ne_eq,Option.some.injEq];omega)))) (fun hHeld=>?_)
 clear hK KQ
 try dsimp only [Act.put]
 refine wpAnyH_done (by kernel_rfl) ?_ _
 go_wp2_with fail
 exact ⟨rfl,_,results_tct Tryz.results5 _ _ rfl kz Tryz.underlying24 rfl (by rw [hcs8];kernel_rfl),⟨gm,_,pin,rfl,row_gr rm gz (by omega),by omega,(dr8.grown gz (by omega)).mono (Below.refl _ _) (by omega),below_setRow' b8 (Nat.le_refl _) _⟩⟩
end Go.Proofs.YtoajfbkblpaejaaGreatDoor
