import Derived.Test.YtoajfbkblpaejaaGreatDoorGmJ
import Derived.Test.YtoajfbkblpaejaaGreatDoorGrA
import Derived.Maps.AppendAt
import Derived.Deep.RegionWith
namespace Go.Proofs.YtoajfbkblpaejaaGreatDoor
open Go.RowKit
theorem conv_row (A:List UInt8) (ao:Addr) (n c:Nat) (w:World) (hn:A.length = n) (h:∀ j u,(A.map byte)[j]? = some u → w.cell? (ao.add j) = some u) :
   (convert 22 9 (.slice (some ao) n c)).run Tryz.prog w = .ok (.string ((A.map fun b=>(b.toNat:Int)).foldl (fun r n=>r.push (UInt8.ofNat n.toNat)) ByteArray.empty)) w:=by
 rw [run_convert_bytes_string w 22 9 5 _ _ _ Tryz.underlying22 Tryz.underlying5 Tryz.underlying9]
 refine run_bytesToString w ao n c (A.map fun b=>(b.toNat:Int)) ?_
 have hl:=run_loadCells_list (P:=Tryz.prog) w ao (A.map byte) h
 rw [List.length_map,hn] at hl
 rw [hl,List.map_map]
 rfl
theorem range_news {w:World} {b o:Nat} {l:List UInt8} (h:w.rangeAt b o (l.map byte)):∀ j u,(l.map byte)[j]? = some u → w.cell? ((⟨b,o,none⟩:Addr).add j) = some u:=by
 intro j u hu
 rw [Addr.add_mid]
 exact h j u hu
set_option maxHeartbeats 1000000 in
theorem same_any (A:List UInt8) (a1 a2:Option Addr) (n c1 c2:Nat) (w:World) (hn:A.length = n) (h0:0 < n) (r1:RowAt w a1 A) (r2:RowAt w a2 A) :
   Calls Tryz.prog 10 #[.slice a1 n c1,.slice a2 n c2] w fun e w'=>e = .returned (.bool true) ∧ w' = w:=by
 obtain ⟨g1,o1,rfl,h1⟩:=r1.range (by omega)
 obtain ⟨g2,o2,rfl,h2⟩:=r2.range (by omega)
 have e1:=conv_row A ⟨g1,o1,none⟩ n c1 w hn (range_news h1)
 have e2:=conv_row A ⟨g2,o2,none⟩ n c2 w hn (range_news h2)
 obtain ⟨S,hS⟩:∃ S,S = (A.map fun b=>(b.toNat:Int)).foldl (fun r n=>r.push (UInt8.ofNat n.toNat)) ByteArray.empty:=⟨_,rfl⟩
 rw [← hS] at e1 e2
 clear hS h1 h2 r1 r2
 go_enter Tryz.func10,Tryz.ntmps10
 go_wp2
 go_ret
 exact ⟨by simp,rfl⟩
def Rd (w:World) (R:Nat) (ao:Option Addr) (cap:Nat) (code:List UInt8) (i:Nat):Prop:=Blk w R 57 [.slice ao code.length cap,.int .i64 (i:Int)]
theorem Rd.cells {w:World} {R:Nat} {ao:Option Addr} {cap:Nat} {code:List UInt8} {i:Nat} (h:Rd w R ao cap code i):w.cell? ⟨R,0,none⟩ = some (.slice ao code.length cap) ∧ w.cell? ⟨R,1,none⟩ = some (.int .i64 (i:Int)) ∧ w.frozen? ⟨R,1,none⟩ = false :=
 ⟨Blk.cell h 0 (by simp),Blk.cell h 1 (by simp),Blk.free h 1⟩
set_option maxHeartbeats 1000000 in
theorem next_any (R:Nat) (ao:Option Addr) (cap:Nat) (code:List UInt8) (i:Nat) (w:World) (hn:code.length ≤ 1048576) (hi:i ≤ code.length) (hr:RowAt w ao code) (hR:Rd w R ao cap code i) :
   Calls Tryz.prog 55 #[.pointer (some ⟨R,0,none⟩)] w fun e w'=>∃ c i':Nat,e = .returned (.int .i64 (c:Int)) ∧ c < 256 ∧ i' ≤ code.length ∧ Rd w' R ao cap code i' ∧ w.grownBy w' (some R) ∧ w'.heap.size = w.heap.size:=by
 obtain ⟨n,hnl⟩:∃ n,n = code.length:=⟨_,rfl⟩
 obtain ⟨c0,c1,f1⟩:=hR.cells
 rw [← hnl] at c0
 by_cases hlt:i < code.length
 · obtain ⟨b,off,rfl,hc⟩:=hr.at hlt
   have hcx:w.cell? ⟨b,off + i,none⟩ = some (.int .u8 (code[i].toNat:Int)):=(hc i hlt).trans (by simp [hlt])
   have hx:=code[i].toNat_lt
   obtain ⟨x,hxe⟩:∃ x,x = code[i].toNat:=⟨_,rfl⟩
   rw [← hxe] at hcx hx
   have HR:=hide hR
   have hge:¬ ((n:Int) ≤ (i:Int)):=by omega
   have hltI:(i:Int) < (n:Int):=by omega
   clear hc hxe hR hr
   go_enter Tryz.func55,Tryz.ntmps55
   go_wp2_with fail
   go_region
   all_goals
     go_wp2_with fail
     go_region
     all_goals
       go_wp2_with fail
       go_ret
       refine ⟨x,i + 1,rfl,hx,by omega,?_,⟨rfl,rfl,rfl,by simp,fun k _ hk=>(heap_setCell_other _ ⟨R,1,none⟩ k _ (fun e=>hk (by simp [e])))⟩,by simp⟩
       have h:=Blk.set (w:=w.drew.drew) HR.out 1 (.int .i64 ((i + 1:Nat):Int))
       exact h
 · have hge:(n:Int) ≤ (i:Int):=by omega
   have HR:=hide hR
   clear hR hr
   go_enter Tryz.func55,Tryz.ntmps55
   go_wp2_with fail
   go_region
   all_goals
     go_wp2_with fail
     go_ret
     exact ⟨0,i,rfl,by omega,hi,HR.out,⟨rfl,rfl,rfl,Nat.le_refl _,fun _ _ _=>rfl⟩,rfl⟩
theorem row_keep {w w':World} {R:Nat} {ao:Option Addr} {code:List UInt8} (h:RowAt w ao code) (hg:w.grownBy w' (some R)) (hne:code ≠ [] → ∀ a,ao = some a → a.block ≠ R):RowAt w' ao code:=by
 by_cases hc:code = []
 · exact .inl hc
 · exact h.grown hg (fun a ha e=>by injection e with e;exact hne hc a ha e.symm)
set_option maxHeartbeats 2000000 in
theorem some_any (R:Nat) (ao:Option Addr) (cap:Nat) (code:List UInt8) (i m:Nat) (w:World) (hn:code.length ≤ 1048576) (hi:i ≤ code.length) (hm:m ≤ 1000) (hRw:R < w.heap.size) (hne:code ≠ [] → ∀ a,ao = some a → a.block ≠ R) (hr:RowAt w ao code) (hR:Rd w R ao cap code i) :
   Calls Tryz.prog 62 #[.pointer (some ⟨R,0,none⟩),.int .i64 (m:Int)] w fun e w'=>∃ (v:Value) (l:List UInt8) (i':Nat),e = .returned v ∧ l.length = m ∧ OwnB w' w.heap.size v l ∧ i' ≤ code.length ∧ Rd w' R ao cap code i' ∧ w.grownBy w' (some R):=by
 obtain ⟨i0,hi0,hz0,hz1,hz2⟩:=info_parts Tryz.info5
 have HN:=hide (fun (i:Nat) (wx:World) (h1:i ≤ code.length) (h2:RowAt wx ao code) (h3:Rd wx R ao cap code i)=>next_any R ao cap code i wx hn h1 h2 h3)
 have HR0:=hide hR
 have Hr:=hide hr
 have Hne:=hide hne
 clear hR hr hne
 go_enter Tryz.func62,Tryz.ntmps62
 go_wp2_with fail
 go_loopw [1,5] (fun k v wr=>∃ (j:Nat) (l:List UInt8) (i':Nat),j ≤ m ∧ k = .int .i64 ((m - j:Nat):Int) ∧ l.length = j ∧ OwnB wr w.heap.size v l ∧ i' ≤ code.length ∧ Rd wr R ao cap code i' ∧ w.grownBy wr (some R)) (fun k _ _=>(intOf k).toNat)
 case atStart=>exact ⟨0,[],i,by omega,by simp,rfl,World.ownsRow_nil _ _ _ _,hi,HR0.out,⟨rfl,rfl,rfl,Nat.le_refl _,fun _ _ _=>rfl⟩⟩
 case round =>
   obtain ⟨j,l,i',hj,rfl,hl,hown,hi',hR,hg⟩:=hrel
   have HR:=hide hR
   have Hg:=hide hg
   have hgs:=hg.size
   clear hR hg
   obtain ⟨ao6,c6,hv6,-,-,-,-⟩:=hown.own.shape
   rw [hl] at hv6
   subst hv6
   by_cases hlt:j < m
   · obtain ⟨q,hq⟩:∃ q,q = m - j:=⟨_,rfl⟩
     have HQ:=hide hq
     have hq0:0 < q:=by omega
     have hq1:q ≤ 1000:=by omega
     rw [← hq]
     clear hq
     have hrow:RowAt wr ao code:=row_keep Hr.out Hg.out Hne.out
     go_wp2_with fail
     refine (HN.out i' wr hi' hrow HR.out).mono ?_
     rintro e w1 ⟨c,i2,rfl,hc,hi2,hR1,hg1,hs1⟩
     have own1:=World.ownsRow.kept (own_num hown hl) hg1 (by
       cases hb:(Value.slice ao6 j c6).ownBlock with
       | none=>exact .inl rfl
       | some b=>right;intro h;injection h with h;have:=((own_num hown hl).lt b hb).1;omega)
     have HR1:=hide hR1
     have HG1:=hide (grown_trans Hg.out hg1)
     have HS1:=hide hs1
     have hs1':w.heap.size ≤ w1.heap.size:=by omega
     have hcm:(c:Int) % 256 = (c:Int):=by omega
     clear hR1 hg1 hs1 hown hrow
     go_wp2_with (at_builtin;refine wpList_append_own_at _ rfl _ _ 22 rfl w.heap.size 5 i0 (.int .u8 0) 1 1 Tryz.underlying22 hi0 hz0 hz1 hz2 rfl (by decide) _ _ _ rfl (own1.alloc _) ⟨w1.heap.size,0,none⟩ 1 1 [.int .u8 (c:Int)] rfl rfl (cell_one_new _ _ _) (by intro u hu;simp at hu;subst hu;rfl) (by unfold maxLen;omega) (by omega) (by simp;omega) ?_;intro v7 w7 hown7 hgrow7 hnil7 hat7)
     have hneR:(Value.slice ao6 j c6).ownBlock ≠ some R:=by
       intro h
       have:=(own1.lt R h).1
       omega
     have R1:OwnB w7 w.heap.size v7 (l ++ [UInt8.ofNat c]):=by
       unfold OwnB
       rw [List.length_append,hl,List.map_append,List.map_cons,List.map_nil,show byte (UInt8.ofNat c) = .int .u8 (c:Int) from (by unfold byte;rw [UInt8.toNat_ofNat'];congr 1)]
       exact hown7
     have R2:Rd w7 R ao cap code i2:=Blk.grown (Blk.alloc HR1.out _) hgrow7 (fun h=>hneR h.symm)
     have R3:w.grownBy w7 (some R):=by
       have h1:=HG1.out
       refine ⟨hgrow7.os.trans h1.os,hgrow7.tape.trans h1.tape,hgrow7.output.trans h1.output,Nat.le_trans h1.size (Nat.le_trans (by simp) hgrow7.size),fun k hk hkR=>?_⟩
       rw [hgrow7.block k (by simp;omega) (fun h=>by have:=(own1.lt k h.symm).1;omega)]
       rw [heap_alloc_old w1 _ (by omega)]
       exact h1.block k hk hkR
     clear hown7 hgrow7 hnil7 hat7 own1
     go_roundw
     case rel=>exact ⟨j + 1,l ++ [UInt8.ofNat c],i2,by omega,by rw [show ((m - (j + 1):Nat):Int) = (q:Int) - 1 from (by have:=HQ.out;omega)],by rw [List.length_append,hl];rfl,R1,hi2,R2,R3⟩
     case measure=>have:=HQ.out;simp [intOf];omega
   · have hjm:j = m:=by omega
     subst hjm
     rw [Nat.sub_self]
     go_wp2_with fail
     go_ret
     exact ⟨_,l,i',rfl,hl,hown,hi',HR.out,Hg.out⟩
theorem bits_and_i64 (a b:Nat) (ha:a < 256) (hb:b < 256):∃ c:Nat,bits BinOp.and IntKind.i64 (a:Int) (b:Int) = (c:Int) ∧ c < 256:=by
 refine ⟨a &&& b,?_,Nat.lt_of_le_of_lt (Nat.and_le_left) ha⟩
 show IntKind.i64.wrap ((BitVec.ofInt 64 (a:Int) &&& BitVec.ofInt 64 (b:Int)).toNat:Int) = _
 have h:=Nat.lt_of_le_of_lt (Nat.and_le_left (n:=a) (m:=b)) ha
 rw [BitVec.toNat_and,ofInt_u64 a (by omega),ofInt_u64 b (by omega),IntKind.wrap_i64]
 omega
theorem byte_nat (c:Nat) (h:c < 256):byte (UInt8.ofNat c) = .int .u8 (c:Int):=by
 unfold byte
 rw [UInt8.toNat_ofNat']
 congr 1
 omega
theorem cell_three (w:World) (x y z:Value) (t:TypeId):∀ j u,[x,y,z][j]? = some u → (w.alloc (.cells #[x,y,z] t)).cell? ((⟨w.heap.size,0,none⟩:Addr).add j) = some u:=by
 intro j u hj
 have hb:=Blk.new w t #[x,y,z]
 have hlt:j < [x,y,z].length:=(List.getElem?_eq_some_iff.1 hj).1
 have h:=hb.cell j hlt
 rw [Addr.add_mid,Nat.zero_add,h,← hj,List.getElem?_eq_getElem hlt]
set_option maxRecDepth 100000 in
set_option maxHeartbeats 2000000 in
theorem ksn_any (R:Nat) (ao:Option Addr) (cap:Nat) (code:List UInt8) (i:Nat) (w:World) (hn:code.length ≤ 1048576) (hi:i ≤ code.length) (hRw:R < w.heap.size) (hne:code ≠ [] → ∀ a,ao = some a → a.block ≠ R) (hr:RowAt w ao code) (hR:Rd w R ao cap code i) :
   Calls Tryz.prog 59 #[.pointer (some ⟨R,0,none⟩)] w fun e w'=>∃ (v:Value) (l:List UInt8) (i':Nat),e = .returned v ∧ l.length = 10 ∧ OwnB w' w.heap.size v l ∧ i' ≤ code.length ∧ Rd w' R ao cap code i' ∧ w.grownBy w' (some R):=by
 obtain ⟨i0,hi0,hz0,hz1,hz2⟩:=info_parts Tryz.info5
 have HN:=hide (fun (i:Nat) (wx:World) (h1:i ≤ code.length) (h2:RowAt wx ao code) (h3:Rd wx R ao cap code i)=>next_any R ao cap code i wx hn h1 h2 h3)
 have HS:=hide (some_any R ao cap code i 7 w hn hi (by omega) hRw hne hr hR)
 have Hrow:=hide (fun (wx:World) (h:w.grownBy wx (some R))=>(row_keep hr h hne:RowAt wx ao code))
 clear hR hr hne
 go_enter Tryz.func59,Tryz.ntmps59
 go_wp2_with fail
 refine HS.out.mono ?_
 rintro e w1 ⟨v1,l1,i1,rfl,hl1,own1,hi1,hR1,hg1⟩
 obtain ⟨g1,c1,hc1,rfl,-⟩:=own_at own1 hl1 (by omega)
 have O1:=hide (own_num own1 hl1)
 have hR1':=hide hR1
 have G1:=hide hg1
 clear own1 hR1 hg1
 go_wp2_with fail
 refine (HN.out i1 w1 hi1 (Hrow.out w1 G1.out) hR1'.out).mono ?_
 rintro e w2 ⟨c,i2,rfl,hc,hi2,hR2,hg2,hs2⟩
 have hlow:=(O1.out.lt g1 rfl).1
 have hneR:∀ {x:World},x.ownsRow w.heap.size 5 1 (.slice (some ⟨g1,0,none⟩) 7 c1) 7 (l1.map byte) → (Value.slice (some ⟨g1,0,none⟩) 7 c1).ownBlock = none ∨ (Value.slice (some ⟨g1,0,none⟩) 7 c1).ownBlock ≠ some R:=fun _=>Or.inr (by simp only [Value.ownBlock,ne_eq,Option.some.injEq];omega)
 have O2:=hide (World.ownsRow.kept O1.out hg2 (hneR O1.out))
 have hR2':=hide hR2
 have G2:=hide (grown_trans G1.out hg2)
 clear hR2 hg2 hs2
 obtain ⟨b,hb,hb256⟩:=bits_and_i64 c 224 hc (by omega)
 have hb':bits BinOp.and IntKind.i64 (c:Int) 224 = (b:Int):=hb
 clear hb
 have hbm:(b:Int) % 256 = (b:Int):=by omega
 have hcm:(c:Int) % 256 = (c:Int):=by omega
 by_cases h43n:c % 4 = 3
 · have h43:(c:Int) % 4 = 3:=by omega
   go_wp2_with fail
   refine (HN.out i2 w2 hi2 (Hrow.out w2 G2.out) hR2'.out).mono ?_
   rintro e w3 ⟨d,i3,rfl,hd,hi3,hR3,hg3,hs3⟩
   have O3:=hide (World.ownsRow.kept O2.out hg3 (hneR O2.out))
   have hR3':=hide hR3
   have G3:=hide (grown_trans G2.out hg3)
   clear hR3 hg3 hs3
   go_wp2_with fail
   refine (HN.out i3 w3 hi3 (Hrow.out w3 G3.out) hR3'.out).mono ?_
   rintro e w4 ⟨e4,i4,rfl,he4,hi4,hR4,hg4,hs4⟩
   have O4:=hide (World.ownsRow.kept O3.out hg4 (hneR O3.out))
   have hR4':=hide hR4
   have G4:=hide (grown_trans G3.out hg4)
   clear hR4 hg4 hs4
   obtain ⟨f,hf,hf256⟩:=bits_and_i64 d e4 hd he4
   have hfm:(f:Int) % 256 = (f:Int):=by omega
   go_wp2_with fail
   refine (HN.out i4 w4 hi4 (Hrow.out w4 G4.out) hR4'.out).mono ?_
   rintro e w5 ⟨h5,i5,rfl,hh5,hi5,hR5,hg5,hs5⟩
   have O5:=hide (World.ownsRow.kept O4.out hg5 (hneR O4.out))
   have hR5':=hide hR5
   have G5:=hide (grown_trans G4.out hg5)
   clear hR5 hg5 hs5
   have h5m:(h5:Int) % 256 = (h5:Int):=by omega
   have hs5:w.heap.size ≤ w5.heap.size:=G5.out.size
   go_wp2_with (at_builtin;refine wpList_append_own_at _ rfl _ _ 22 rfl w.heap.size 5 i0 (.int .u8 0) 1 1 Tryz.underlying22 hi0 hz0 hz1 hz2 rfl (by decide) _ _ _ rfl (O5.out.alloc _) ⟨w5.heap.size,0,none⟩ 3 3 [.int .u8 (c:Int),.int .u8 (f:Int),.int .u8 (h5:Int)] rfl rfl (cell_three _ _ _ _ _) (by intro u hu;simp at hu;rcases hu with rfl | rfl | rfl <;> rfl) (by unfold maxLen;omega) (by omega) (by simp;omega) ?_;intro v7 w7 hown7 hgrow7 hnil7 hat7)
   replace hgrow7:World.grownBy _ w7 (some g1):=hgrow7
   go_ret
   refine ⟨v7,l1 ++ [UInt8.ofNat c,UInt8.ofNat f,UInt8.ofNat h5],i5,rfl,by rw [List.length_append,hl1];rfl,?_,hi5,?_,?_⟩
   · unfold OwnB
     rw [List.length_append,hl1,List.map_append,List.map_cons,List.map_cons,List.map_cons,List.map_nil,byte_nat c (by omega),byte_nat f (by omega),byte_nat h5 (by omega)]
     exact hown7
   · exact Blk.grown (Blk.alloc hR5'.out _) hgrow7 (by intro h;injection h with h;omega)
   · have h1:=G5.out
     refine ⟨hgrow7.os.trans h1.os,hgrow7.tape.trans h1.tape,hgrow7.output.trans h1.output,Nat.le_trans h1.size (Nat.le_trans (by simp) hgrow7.size),fun k hk hkR=>?_⟩
     rw [hgrow7.block k (by simp;omega) (by intro h;injection h with h;omega)]
     rw [heap_alloc_old w5 _ (by omega)]
     exact h1.block k hk hkR
 · have h43:¬ ((c:Int) % 4 = 3):=by omega
   go_wp2_with fail
   refine (HN.out i2 w2 hi2 (Hrow.out w2 G2.out) hR2'.out).mono ?_
   rintro e w3 ⟨d,i3,rfl,hd,hi3,hR3,hg3,hs3⟩
   have O3:=hide (World.ownsRow.kept O2.out hg3 (hneR O2.out))
   have hR3':=hide hR3
   have G3:=hide (grown_trans G2.out hg3)
   clear hR3 hg3 hs3
   go_wp2_with fail
   refine (HN.out i3 w3 hi3 (Hrow.out w3 G3.out) hR3'.out).mono ?_
   rintro e w4 ⟨e4,i4,rfl,he4,hi4,hR4,hg4,hs4⟩
   have O4:=hide (World.ownsRow.kept O3.out hg4 (hneR O3.out))
   have hR4':=hide hR4
   have G4:=hide (grown_trans G3.out hg4)
   clear hR4 hg4 hs4
   obtain ⟨f,hf,hf256⟩:=bits_and_i64 d e4 hd he4
   have hfm:(f:Int) % 256 = (f:Int):=by omega
   go_wp2_with fail
   refine (HN.out i4 w4 hi4 (Hrow.out w4 G4.out) hR4'.out).mono ?_
   rintro e w5 ⟨h5,i5,rfl,hh5,hi5,hR5,hg5,hs5⟩
   have O5:=hide (World.ownsRow.kept O4.out hg5 (hneR O4.out))
   have hR5':=hide hR5
   have G5:=hide (grown_trans G4.out hg5)
   clear hR5 hg5 hs5
   have h5m:(h5:Int) % 256 = (h5:Int):=by omega
   have hs5:w.heap.size ≤ w5.heap.size:=G5.out.size
   go_wp2_with (at_builtin;refine wpList_append_own_at _ rfl _ _ 22 rfl w.heap.size 5 i0 (.int .u8 0) 1 1 Tryz.underlying22 hi0 hz0 hz1 hz2 rfl (by decide) _ _ _ rfl (O5.out.alloc _) ⟨w5.heap.size,0,none⟩ 3 3 [.int .u8 (b:Int),.int .u8 (f:Int),.int .u8 (h5:Int)] rfl rfl (cell_three _ _ _ _ _) (by intro u hu;simp at hu;rcases hu with rfl | rfl | rfl <;> rfl) (by unfold maxLen;omega) (by omega) (by simp;omega) ?_;intro v7 w7 hown7 hgrow7 hnil7 hat7)
   replace hgrow7:World.grownBy _ w7 (some g1):=hgrow7
   go_ret
   refine ⟨v7,l1 ++ [UInt8.ofNat b,UInt8.ofNat f,UInt8.ofNat h5],i5,rfl,by rw [List.length_append,hl1];rfl,?_,hi5,?_,?_⟩
   · unfold OwnB
     rw [List.length_append,hl1,List.map_append,List.map_cons,List.map_cons,List.map_cons,List.map_nil,byte_nat b (by omega),byte_nat f (by omega),byte_nat h5 (by omega)]
     exact hown7
   · exact Blk.grown (Blk.alloc hR5'.out _) hgrow7 (by intro h;injection h with h;omega)
   · have h1:=G5.out
     refine ⟨hgrow7.os.trans h1.os,hgrow7.tape.trans h1.tape,hgrow7.output.trans h1.output,Nat.le_trans h1.size (Nat.le_trans (by simp) hgrow7.size),fun k hk hkR=>?_⟩
     rw [hgrow7.block k (by simp;omega) (by intro h;injection h with h;omega)]
     rw [heap_alloc_old w5 _ (by omega)]
     exact h1.block k hk hkR
end Go.Proofs.YtoajfbkblpaejaaGreatDoor
