import Derived.Test.YtoajfbkblpaejaaGreatDoorReadI
import Derived.Deep.DeepCutAuto
import Derived.Deep.RegionWith
import Derived.Test.YtoajfbkblpaejaaGreatDoorOpenM
namespace Go.Proofs.YtoajfbkblpaejaaGreatDoor
open Go.RowKit
def fillOK (f d:Nat):Bool:=decide (d = 15) || (decide (f = 3) && decide (10 ≤ d))
def pinD (ds:List Nat):List Nat:=(ds.drop 2).take (ds.getD 1 0)
def fillD (ds:List Nat):List Nat:=(ds.drop 2).drop (ds.getD 1 0)
def clearOK (f:Nat) (ds:List Nat):Bool:=decide (ds.getD 0 0 = f) && (decide (4 ≤ ds.getD 1 0) && decide (ds.getD 1 0 ≤ 12) && (pinD ds).all (fun d=>decide (d < 10))) && (fillD ds).all (fillOK f)
def textOf (ds:List Nat):ByteArray:=⟨(ds.map hexC).toArray⟩
theorem text_size (ds:List Nat):(textOf ds).size = ds.length:=by
 show (ds.map hexC).toArray.size = _
 simp
theorem text_at (ds:List Nat) (k:Nat) (h:k < (textOf ds).size) (h2:k < ds.length):(textOf ds)[k] = hexC ds[k]:=by
 have e:(textOf ds)[k] = (ds.map hexC).toArray[k]'(by simpa using h2):=rfl
 rw [e];simp
theorem text_extract (ds:List Nat) (a b:Nat):(textOf ds).extract a b = textOf ((ds.take b).drop a):=by
 apply ByteArray.ext
 rw [ByteArray.data_extract]
 show (ds.map hexC).toArray.extract a b = (((ds.take b).drop a).map hexC).toArray
 rw [List.extract_toArray,List.extract_eq_drop_take',← List.map_take,← List.map_drop]
theorem hexC_dig2:∀ d:Nat,d < 16 → dig (hexC d) = decide (d < 10) ∧ ((hexC d).toNat = 70 ↔ d = 15) ∧ (hexC d).toNat < 128:=by decide +kernel
theorem hexC_inj:∀ d:Nat,d < 16 → ∀ e:Nat,e < 16 → hexC d = hexC e → d = e:=by decide +kernel
theorem text_digs (ds:List Nat) (h:∀ d ∈ ds,d < 16):digs (textOf ds) = ds.all (fun d=>decide (d < 10)):=by
 unfold digs textOf
 show ((ds.map hexC).toArray.toList).all dig = _
 rw [List.all_map]
 rw [Bool.eq_iff_iff,List.all_eq_true,List.all_eq_true]
 constructor
 · intro k d hd;have:=k d hd;rw [Function.comp_apply,(hexC_dig2 d (h d hd)).1] at this;exact this
 · intro k d hd;rw [Function.comp_apply,(hexC_dig2 d (h d hd)).1];exact k d hd
theorem isPin_text (ds:List Nat) (w:World) (h:∀ d ∈ ds,d < 16) (hl:ds.length ≤ 16) :
   Calls Tryz.prog 42 #[.string (textOf ds)] w fun e w'=>e = .returned (.bool (decide (4 ≤ ds.length) && decide (ds.length ≤ 12) && ds.all (fun d=>decide (d < 10)))) ∧ Below w.heap.size w w':=by
 have hp:=isPin_any (textOf ds) w (by rw [text_size];unfold maxLen;omega)
 rw [text_size,text_digs ds h] at hp
 exact hp
set_option maxRecDepth 100000 in
set_option maxHeartbeats 1000000 in
theorem clear_in (f n d0:Nat) (pd fd:List Nat) (s:ByteArray) (u:Nat) (pv:Value) (w:World) (hf:f = 0 ∨ f = 3) (hn16:n < 16) (hd0:d0 < 16) (hs:s.size = 16) (h1:s[1]'(by omega) = hexC n) (he0:s.extract 0 1 = textOf [d0])
   (hpe:n ≤ 14 → s.extract 2 (2 + n) = textOf pd) (hfe:n ≤ 14 → s.extract (2 + n) 16 = textOf fd) (hpl:n ≤ 14 → pd.length = n) (hpd:∀ d ∈ pd,d < 16) (hfd:∀ d ∈ fd,d < 16) (hg:w.cell? ⟨2,0,none⟩ = some (.iface u pv)) :
   Calls Tryz.prog 37 #[.int .i64 (f:Int),.string s] w fun e w'=>e = (if (decide (d0 = f) && (decide (4 ≤ n) && decide (n ≤ 12) && pd.all (fun d=>decide (d < 10))) && fd.all (fillOK f)) = true then .returned (.string (textOf pd)) else .panicked [{ v:=.iface u pv,recovered:=false }]) ∧ Below w.heap.size w w':=by
 have hf16:f < 16:=by omega
 have HV:=hid_eq (hexC_val n hn16).1
 have HPE:=hid_eq hpe
 have HFE:=hid_eq hfe
 have HPL:=hid_eq hpl
 clear hpe hfe hpl
 obtain ⟨ok,hok⟩:∃ ok,ok = (decide (d0 = f) && (decide (4 ≤ n) && decide (n ≤ 12) && pd.all (fun d=>decide (d < 10))) && fd.all (fillOK f)):=⟨_,rfl⟩
 rw [← hok]
 have HOK:=hid_eq hok
 clear hok
 go_enter Tryz.func37,Tryz.ntmps37
 go_wp2_with fail
 refine (hexValue_any _ _ (UInt8.toNat_lt _)).mono ?_
 rintro e w1 ⟨rfl,hw1⟩
 subst w1
 rw [HV.out]
 go_wp2_with fail
 obtain ⟨V,hV⟩:∃ V,V = World.drew w:=⟨_,rfl⟩
 have hbw:Below w.heap.size w V:=by rw [hV];exact (Below.refl _ _).drew
 have hbV:Below V.heap.size V V:=Below.refl _ _
 have hg':V.cell? ⟨2,0,none⟩ = some (.iface u pv):=by rw [hV];exact hg
 have keep:Hid (∀ {B x},Below B V x → True):=fun _=>trivial
 by_cases h0:d0 = f
 · subst h0
   have heq:(textOf [d0]).toList = [hexC d0]:=by unfold textOf;simp
   by_cases h14:n ≤ 14
   · have h14I:(n:Int) ≤ 14:=by omega
     have e1:=HPE.out h14
     have e2:=HFE.out h14
     have hpl:=HPL.out h14
     go_cut [] (fun wx=>wx.cell? ⟨2,0,none⟩ = some (.iface u pv) ∧ Below w.heap.size w wx)
     case first =>
       refine wp_region_held_drew (S:=fun _=>True) (by kernel_rfl) trivial (fun hHeld=>?_)
       rw [← hV]
       clear hV
       refine tk (i:=0) (v:=(.string s)) rfl (Or.inl ⟨by rfl,?_⟩) hHeld ?_
       · intro _ _;go_simp
       try dsimp only [Act.put]
       refine tk (i:=1) (v:=(.string (textOf [d0]))) rfl (Or.inl ⟨by rfl,?_⟩) hHeld ?_
       · intro _ _;go_simp
       dsimp only [Act.put,List.getElem_toArray,List.getElem_cons_zero,List.getElem_cons_succ]
       simp only [List.setIfInBounds_toArray,List.set_cons_succ,List.set_cons_zero]
       refine tk (i:=2) (v:=(.int .i64 (d0:Int))) rfl (Or.inl ⟨by rfl,?_⟩) hHeld ?_
       · intro _ _;go_simp
       try dsimp only [Act.put]
       refine rdy1 3 (fun K hK=>?_)
       go_simp
       refine (hexDigit_any d0 _ hd0).mono ?_
       rintro e w_1 ⟨rfl,hw_1⟩
       subst w_1
       go_wp2_with fail
       refine hK.out _ _ (keep.out hbV) (fun hHeld=>?_)
       clear hK K
       try dsimp only [Act.put]
       refine tk (i:=4) (v:=(.bool true)) rfl (Or.inl ⟨by rfl,?_⟩) hHeld ?_
       · intro _ _;go_simp
       dsimp only [Act.put,List.getElem_toArray,List.getElem_cons_zero,List.getElem_cons_succ]
       simp only [List.setIfInBounds_toArray,List.set_cons_succ,List.set_cons_zero]
       refine tk (i:=5) (v:=(.bool true)) rfl (Or.inl ⟨by rfl,?_⟩) hHeld ?_
       · intro _ _;go_simp
       try dsimp only [Act.put]
       refine tk (i:=6) (v:=(.int .i64 (n:Int))) rfl (Or.inl ⟨by rfl,?_⟩) hHeld ?_
       · intro _ _;go_simp
       dsimp only [Act.put,List.getElem_toArray,List.getElem_cons_zero,List.getElem_cons_succ]
       simp only [List.setIfInBounds_toArray,List.set_cons_succ,List.set_cons_zero]
       refine tk (i:=7) (v:=(.bool true)) rfl (Or.inl ⟨by rfl,?_⟩) hHeld ?_
       · intro _ _;go_simp
       try dsimp only [Act.put]
       refine tk (i:=8) (v:=(.bool true)) rfl (Or.inl ⟨by rfl,?_⟩) hHeld ?_
       · intro _ _;go_simp
       dsimp only [Act.put,List.getElem_toArray,List.getElem_cons_zero,List.getElem_cons_succ]
       simp only [List.setIfInBounds_toArray,List.set_cons_succ,List.set_cons_zero]
       refine rdy1 9 (fun K hK=>?_)
       go_simp
       refine (must_true _).mono ?_
       rintro e w_2 ⟨rfl,hw_2⟩
       subst w_2
       go_wp2_with fail
       refine hK.out _ _ (keep.out hbV) (fun hHeld=>?_)
       clear hK K
       try dsimp only [Act.put]
       refine wpAnyH_done (by kernel_rfl) ?_ _
       go_wp2_with fail
       go_meet
       case rel=>exact ⟨hg',hbw⟩
     case rest =>
       clear hV hg' hbw hbV keep V
       obtain ⟨hgc,hbc⟩:=hcut
       have h2n:(2:Int) + (n:Int) ≤ 16:=by omega
       have hPb:=isPin_text pd
       have HP:=hid_eq (fun (wx:World)=>isPin_text pd wx hpd (by omega))
       rw [hpl] at HP
       clear hPb
       have HE1:=hid_eq e1
       have HE2:=hid_eq e2
       go_wp2_with fail
       go_region
       go_wp2_with fail
       refine (HP.out _).mono ?_
       rintro e w1 ⟨rfl,bel1⟩
       have b1:Below w.heap.size w w1:=hbc.trans ((Below.drew (Below.refl _ wc)).trans (bel1.mono (Nat.le_refl _)) |>.mono hbc.size)
       have hg1:w1.cell? ⟨2,0,none⟩ = some (.iface u pv):=(b1.cell (p:=⟨2,0,none⟩) (World.block_lt_of_cell? w _ hg)).trans hg
       clear bel1 hbc hgc
       obtain ⟨b,hb⟩:∃ b,b = (decide (4 ≤ n) && decide (n ≤ 12) && pd.all fun d=>decide (d < 10)):=⟨_,rfl⟩
       rw [← hb] at HOK ⊢
       clear hb HP HV
       go_wp2_with fail
       cases b
       · refine (must_false u pv _ hg1).mono ?_
         rintro e w2 ⟨rfl,hw2⟩
         subst w2
         exact ⟨rfl,by rw [HOK.out];simp,b1⟩
       · refine (must_true _).mono ?_
         rintro e w2 ⟨rfl,hw2⟩
         subst w2
         have HK2:Hid (ok = fd.all (fillOK d0)):=by show _ = _;rw [HOK.out];simp
         have hts:=text_size fd
         have hta:=text_at fd
         obtain ⟨s2,hs2⟩:∃ s2,s2 = textOf fd:=⟨_,rfl⟩
         have HTA:Hid (∀ k (h:k < s2.size) (h2:k < fd.length),s2[k] = hexC fd[k]):=by subst hs2;exact hta
         rw [← hs2] at hts e2 ⊢
         have HTS:=hid_eq hts
         clear hta hts hs2 HOK HE1 HE2 HPE HFE HPL
         have hg0:=World.block_lt_of_cell? w _ hg
         go_wp2_with fail
         go_loopw [] (fun wr=>∃ pos:Nat,pos ≤ s2.size ∧ wr.heap[w1.heap.size]? = some (.stringIter s2 pos) ∧ Hid (∀ j (hj:j < fd.length),j < pos → fillOK d0 fd[j] = true) ∧ Below w.heap.size w wr) (fun wr=>s2.size - wr.iterPos w1.heap.size)
         case atStart =>
           refine ⟨0,Nat.zero_le _,by simpa using World.iter_heap w1 s2 0,fun j _ h=>absurd h (Nat.not_lt_zero j),b1.trans ((Below.refl _ w1).alloc b1.size _)⟩
         case round =>
           have hw1:=b1.size
           clear hg1 b1
           obtain ⟨pos,hp0,hit,HD,hbel⟩:=hrel
           have hgr:wr.cell? ⟨2,0,none⟩ = some (.iface u pv):=(hbel.cell (p:=⟨2,0,none⟩) hg0).trans hg
           by_cases hp:pos < s2.size
           · have hpf:pos < fd.length:=by rw [← HTS.out];exact hp
             have hat:=HTA.out pos hp hpf
             have hd16:=hfd fd[pos] (List.getElem_mem hpf)
             obtain ⟨hdg,h70,h128⟩:=hexC_dig2 fd[pos] hd16
             have HN:Hid (fillOK d0 fd[pos] = true → ∀ j (hj:j < fd.length),j < pos + 1 → fillOK d0 fd[j] = true):=by
               show _ → _
               intro hf j hj hjp
               by_cases hjk:j = pos
               · subst hjk;exact hf
               · exact HD.out j hj (by omega)
             have HB:Hid (fillOK d0 fd[pos] = false → ok = false):=by
               show _ → _
               intro hf
               rw [HK2.out]
               cases ha:fd.all (fillOK d0)
               · rfl
               · rw [List.all_eq_true] at ha
                 rw [ha _ (List.getElem_mem hpf)] at hf
                 cases hf
             obtain ⟨d,hd⟩:∃ d,d = fd[pos]:=⟨_,rfl⟩
             rw [← hd] at hat hd16 hdg h70 h128 HN HB
             clear HD hd
             have hnx:∀ ty,(Instr.next (.pointer (some ⟨w1.heap.size,0,none⟩)) true ty).run Tryz.prog wr = _:=fun ty=>Lib.run_next_ascii_at wr w1.heap.size s2 pos ty hit hp (by rw [hat];exact h128)
             rw [hat] at hnx
             have hit2:=Lib.iterAt_heap wr w1.heap.size s2 pos (pos + 1) hit
             have hbw2:=Lib.below_iterAt hbel (k:=w1.heap.size) hw1 s2 (pos + 1)
             have hg2:Hid (∀ {x},Below w.heap.size w x → x.cell? ⟨2,0,none⟩ = some (.iface u pv)):=fun h=>(h.cell (p:=⟨2,0,none⟩) hg0).trans hg
             have HDI:=hid_eq (fun (wx:World)=>isDigit_any ((hexC d).toNat:Int) wx)
             rw [dig_int,hdg] at HDI
             obtain ⟨c,hc⟩:∃ c,c = (hexC d).toNat:=⟨_,rfl⟩
             rw [← hc] at hnx h70 h128 HDI
             clear hc hat hdg hgr
             by_cases h15:d = 15
             · have hc70:(c:Int) = 70:=by have:=h70.2 h15;omega
               have HF:Hid (fillOK d0 d = true):=by show _ = _;simp [fillOK,h15]
               clear h70
               go_wp2_with fail
               refine (must_true _).mono ?_
               rintro e w2 ⟨rfl,hw2⟩
               subst w2
               go_wp2_with fail
               go_roundw
               case rel=>exact ⟨pos + 1,by omega,hit2,HN.out HF.out,hbw2⟩
               case measure =>
                 simp only [World.iterPos,hit2,hit]
                 omega
             · have hc70:¬ ((c:Int) = 70):=by intro e;exact h15 (h70.1 (by omega))
               have hcb:((c:Int) == 70) = false:=beq_eq_false_iff_ne.2 hc70
               clear h70
               by_cases hf3:¬ d0 = 3
               · have HF:Hid (fillOK d0 d = false):=by show _ = _;simp [fillOK,h15,hf3]
                 have hfb:((d0:Int) == 3) = false:=beq_eq_false_iff_ne.2 (by omega)
                 go_wp2_with fail
                 refine (must_false u pv _ (hg2.out hbw2)).mono ?_
                 rintro e w2 ⟨rfl,hw2⟩
                 subst w2
                 exact ⟨rfl,by rw [HB.out HF.out];rfl,hbw2⟩
               · have hfb:((d0:Int) == 3) = true:=beq_iff_eq.2 (by omega)
                 have Hf3:Hid (d0 = 3):=hid_eq (by omega)
                 clear hf3
                 go_wp2_with fail
                 refine (HDI.out _).mono ?_
                 rintro e w2 ⟨rfl,hw2⟩
                 subst w2
                 by_cases h10:d < 10
                 · have HF:Hid (fillOK d0 d = false):=by show _ = _;simp [fillOK,h15];omega
                   rw [decide_eq_true h10]
                   go_wp2_with fail
                   refine (must_false u pv _ (hg2.out hbw2)).mono ?_
                   rintro e w2 ⟨rfl,hw2⟩
                   subst w2
                   exact ⟨rfl,by rw [HB.out HF.out];rfl,hbw2⟩
                 · have HF:Hid (fillOK d0 d = true):=by show _ = _;simp [fillOK,Hf3.out];omega
                   rw [decide_eq_false h10]
                   go_wp2_with fail
                   refine (must_true _).mono ?_
                   rintro e w2 ⟨rfl,hw2⟩
                   subst w2
                   go_wp2_with fail
                   go_roundw
                   case rel=>exact ⟨pos + 1,by omega,hit2,HN.out HF.out,hbw2⟩
                   case measure =>
                     simp only [World.iterPos,hit2,hit]
                     omega
           · have hnx:∀ ty,(Instr.next (.pointer (some ⟨w1.heap.size,0,none⟩)) true ty).run Tryz.prog wr = _:=fun ty=>Lib.run_next_end_at wr w1.heap.size s2 pos ty hit hp
             have HT:Hid (ok = true):=by
               show _ = _
               rw [HK2.out,List.all_eq_true]
               intro d hd
               obtain ⟨j,hj,rfl⟩:=List.getElem_of_mem hd
               exact HD.out j hj (by have:=HTS.out;omega)
             go_wp2_with fail
             go_ret
             exact ⟨by first | rfl | (rw [HT.out];rfl),hbel⟩
   · have h14I:¬ ((n:Int) ≤ 14):=by omega
     have hbad:Hid (ok = false):=by show ok = false;rw [HOK.out,show decide (n ≤ 12) = false from by simp;omega];simp
     refine wp_region_held_drew (S:=fun _=>True) (by kernel_rfl) trivial (fun hHeld=>?_)
     rw [← hV]
     clear hV
     refine tk (i:=0) (v:=(.string s)) rfl (Or.inl ⟨by rfl,?_⟩) hHeld ?_
     · intro _ _;go_simp
     try dsimp only [Act.put]
     refine tk (i:=1) (v:=(.string (textOf [d0]))) rfl (Or.inl ⟨by rfl,?_⟩) hHeld ?_
     · intro _ _;go_simp
     dsimp only [Act.put,List.getElem_toArray,List.getElem_cons_zero,List.getElem_cons_succ]
     simp only [List.setIfInBounds_toArray,List.set_cons_succ,List.set_cons_zero]
     refine tk (i:=2) (v:=(.int .i64 (d0:Int))) rfl (Or.inl ⟨by rfl,?_⟩) hHeld ?_
     · intro _ _;go_simp
     try dsimp only [Act.put]
     refine rdy1 3 (fun K hK=>?_)
     go_simp
     refine (hexDigit_any d0 _ hd0).mono ?_
     rintro e w_1 ⟨rfl,hw_1⟩
     subst w_1
     go_wp2_with fail
     refine hK.out _ _ (keep.out hbV) (fun hHeld=>?_)
     clear hK K
     try dsimp only [Act.put]
     refine tk (i:=4) (v:=(.bool true)) rfl (Or.inl ⟨by rfl,?_⟩) hHeld ?_
     · intro _ _;go_simp
     dsimp only [Act.put,List.getElem_toArray,List.getElem_cons_zero,List.getElem_cons_succ]
     simp only [List.setIfInBounds_toArray,List.set_cons_succ,List.set_cons_zero]
     refine tk (i:=5) (v:=(.bool true)) rfl (Or.inl ⟨by rfl,?_⟩) hHeld ?_
     · intro _ _;go_simp
     try dsimp only [Act.put]
     refine tk (i:=6) (v:=(.int .i64 (n:Int))) rfl (Or.inl ⟨by rfl,?_⟩) hHeld ?_
     · intro _ _;go_simp
     dsimp only [Act.put,List.getElem_toArray,List.getElem_cons_zero,List.getElem_cons_succ]
     simp only [List.setIfInBounds_toArray,List.set_cons_succ,List.set_cons_zero]
     refine tk (i:=7) (v:=(.bool false)) rfl (Or.inl ⟨by rfl,?_⟩) hHeld ?_
     · intro _ _;go_simp
     try dsimp only [Act.put]
     refine tk (i:=8) (v:=(.bool false)) rfl (Or.inl ⟨by rfl,?_⟩) hHeld ?_
     · intro _ _;go_simp
     dsimp only [Act.put,List.getElem_toArray,List.getElem_cons_zero,List.getElem_cons_succ]
     simp only [List.setIfInBounds_toArray,List.set_cons_succ,List.set_cons_zero]
     refine rdy1 9 (fun K hK=>?_)
     go_simp
     refine (must_false u pv _ hg').mono ?_
     rintro e w1 ⟨rfl,hw1⟩
     subst w1
     refine ⟨rfl,?_,hbw⟩
     rw [hbad.out]
     rfl
 · have hne:¬ (textOf [d0]).toList = [hexC f]:=by
     intro e
     apply h0
     have:hexC d0 = hexC f:=by
       have e2:(textOf [d0]).toList = [hexC d0]:=by unfold textOf;simp
       rw [e2] at e
       simpa using e
     exact hexC_inj d0 hd0 f hf16 this
   have hbad:Hid (ok = false):=by show ok = false;rw [HOK.out,show decide (d0 = f) = false from by simp [h0]];simp
   refine wp_region_held_drew (S:=fun _=>True) (by kernel_rfl) trivial (fun hHeld=>?_)
   rw [← hV]
   clear hV
   refine tk (i:=0) (v:=(.string s)) rfl (Or.inl ⟨by rfl,?_⟩) hHeld ?_
   · intro _ _;go_simp
   try dsimp only [Act.put]
   refine tk (i:=1) (v:=(.string (textOf [d0]))) rfl (Or.inl ⟨by rfl,?_⟩) hHeld ?_
   · intro _ _;go_simp
   dsimp only [Act.put,List.getElem_toArray,List.getElem_cons_zero,List.getElem_cons_succ]
   simp only [List.setIfInBounds_toArray,List.set_cons_succ,List.set_cons_zero]
   refine tk (i:=2) (v:=(.int .i64 (f:Int))) rfl (Or.inl ⟨by rfl,?_⟩) hHeld ?_
   · intro _ _;go_simp
   try dsimp only [Act.put]
   refine rdy1 3 (fun K hK=>?_)
   go_simp
   refine (hexDigit_any f _ hf16).mono ?_
   rintro e w_1 ⟨rfl,hw_1⟩
   subst w_1
   go_wp2_with fail
   refine hK.out _ _ (keep.out hbV) (fun hHeld=>?_)
   clear hK K
   try dsimp only [Act.put]
   refine tk (i:=4) (v:=(.bool false)) rfl (Or.inl ⟨by rfl,?_⟩) hHeld ?_
   · intro _ _;go_simp
   dsimp only [Act.put,List.getElem_toArray,List.getElem_cons_zero,List.getElem_cons_succ]
   simp only [List.setIfInBounds_toArray,List.set_cons_succ,List.set_cons_zero]
   refine tk (i:=5) (v:=(.bool false)) rfl (Or.inl ⟨by rfl,?_⟩) hHeld ?_
   · intro _ _;go_simp
   try dsimp only [Act.put]
   refine tk (i:=6) (v:=undef) rfl (Or.inr ⟨by rfl,rfl⟩) hHeld ?_
   dsimp only [Act.put,List.getElem_toArray,List.getElem_cons_zero,List.getElem_cons_succ]
   simp only [List.setIfInBounds_toArray,List.set_cons_succ,List.set_cons_zero]
   refine tk (i:=7) (v:=undef) rfl (Or.inr ⟨by rfl,rfl⟩) hHeld ?_
   try dsimp only [Act.put]
   refine tk (i:=8) (v:=(.bool false)) rfl (Or.inl ⟨by rfl,?_⟩) hHeld ?_
   · intro _ _;go_simp
   dsimp only [Act.put,List.getElem_toArray,List.getElem_cons_zero,List.getElem_cons_succ]
   simp only [List.setIfInBounds_toArray,List.set_cons_succ,List.set_cons_zero]
   refine rdy1 9 (fun K hK=>?_)
   go_simp
   refine (must_false u pv _ hg').mono ?_
   rintro e w1 ⟨rfl,hw1⟩
   subst w1
   refine ⟨rfl,?_,hbw⟩
   rw [hbad.out]
   rfl
theorem clearPin_any (f:Nat) (ds:List Nat) (u:Nat) (pv:Value) (w:World) (hf:f = 0 ∨ f = 3) (h16:ds.length = 16) (hd:∀ d ∈ ds,d < 16) (hg:w.cell? ⟨2,0,none⟩ = some (.iface u pv)) :
   Calls Tryz.prog 37 #[.int .i64 (f:Int),.string (textOf ds)] w fun e w'=>e = (if clearOK f ds = true then .returned (.string (textOf (pinD ds))) else .panicked [{ v:=.iface u pv,recovered:=false }]) ∧ Below w.heap.size w w':=by
 have hsz:=text_size ds
 have hn1:ds.getD 1 0 = ds[1]:=by simp [h16]
 have hd0:ds.getD 0 0 = ds[0]:=by simp [h16]
 have hm:∀ n,∀ d ∈ (ds.drop 2).take n,d < 16:=fun n d h=>hd d (List.mem_of_mem_drop (List.mem_of_mem_take h))
 have hm2:∀ n,∀ d ∈ (ds.drop 2).drop n,d < 16:=fun n d h=>hd d (List.mem_of_mem_drop (List.mem_of_mem_drop h))
 exact clear_in f (ds.getD 1 0) (ds.getD 0 0) (pinD ds) (fillD ds) (textOf ds) u pv w hf (by rw [hn1];exact hd _ (List.getElem_mem _)) (by rw [hd0];exact hd _ (List.getElem_mem _)) (by omega)
   (by rw [text_at ds 1 (by omega) (by omega),hn1]) (by
     rw [text_extract]
     congr 1
     match ds,h16 with
     | a :: b,_=>rfl)
   (fun _=>by rw [text_extract];unfold pinD;congr 1;rw [List.drop_take];congr 1;omega)
   (fun _=>by rw [text_extract,List.take_of_length_le (by omega)];unfold fillD;rw [List.drop_drop])
   (fun h=>by unfold pinD;rw [List.length_take,List.length_drop,h16];omega) (hm _) (hm2 _) hg
end Go.Proofs.YtoajfbkblpaejaaGreatDoor
