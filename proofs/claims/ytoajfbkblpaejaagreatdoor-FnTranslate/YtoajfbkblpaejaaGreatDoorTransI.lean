import Derived.Test.YtoajfbkblpaejaaGreatDoorTransDef
namespace Go.Proofs.YtoajfbkblpaejaaGreatDoor
open Go.RowKit
abbrev zeroMv:List Value:=[.int .i64 0,.slice none 0 0,.int .i64 0]
theorem Tryz.zeroMv:(Tryz.prog.info? 28).map (fun i=>(i.zero,i.size)) = some (some (.agg zeroMv.toArray),3):=by kernel_rfl
abbrev keyFuns:List Value:=[.nilFunc,.func (.func 63) #[] #[],.nilFunc,.func (.func 64) #[] #[]]
set_option maxRecDepth 100000 in
set_option maxHeartbeats 1000000 in
theorem pinKeys_any (w:World):Calls Tryz.prog 26 #[] w fun e w'=>e = .returned (.agg keyFuns.toArray) ∧ Below w.heap.size w w':=by
 have hk:Blk (w.alloc (.cells #[.nilFunc,.nilFunc,.nilFunc,.nilFunc] 65)) w.heap.size 65 [.nilFunc,.nilFunc,.nilFunc,.nilFunc]:=Blk.new w _ _
 have hb:Below w.heap.size w (w.alloc (.cells #[.nilFunc,.nilFunc,.nilFunc,.nilFunc] 65)):=below_new _ _
 go_enter Tryz.func26,Tryz.ntmps26
 go_wp2_with (refine store_blk (cs:=keyFuns) rfl 65 _ _ rfl w.heap.size rfl rfl hk (by kernel_rfl) rfl (by kernel_rfl) ?_;intro w7 hb7 hg7 hs7)
 exact ⟨rfl,_,results_blk Tryz.results26 _ _ rfl hb7 Tryz.underlying65 rfl (by kernel_rfl),⟨rfl,hb.grown hg7 hb.size (by intro k hk;cases hk;exact Nat.le_refl _)⟩⟩
set_option maxRecDepth 100000 in
set_option maxHeartbeats 1000000 in
theorem zone_yes (K:List UInt8) (af ak at_ ab ad:Option Addr) (nf cf ck nt ct nb cb nd cd:Nat) (ff tf:Int) (pan:ByteArray) (w:World) (hKl:K.length = 16) :
   Calls Tryz.prog 63 #[.agg ([.slice af nf cf,.int .i64 ff,.slice ak 0 ck,.slice at_ nt ct,.int .i64 tf,.slice ab nb cb,.string pan,.slice ad nd cd]:List Value).toArray,.agg (K.map byte).toArray] w fun e w'=>e = .returned (.tuple #[.agg (K.map byte).toArray,.bool true]) ∧ Below w.heap.size w w':=by
 have hKm:(K.map byte).length = 16:=by rw [List.length_map,hKl]
 have hKs:(K.map byte).toArray.size = 16:=by simpa using hKl
 have hz16:=(zero_of_info Tryz.z16).1
 obtain ⟨W,hW⟩:∃ W,W = ((w.alloc (.cells ([.slice af nf cf,.int .i64 ff,.slice ak 0 ck,.slice at_ nt ct,.int .i64 tf,.slice ab nb cb,.string pan,.slice ad nd cd]:List Value).toArray 24)).alloc (.cells (K.map byte).toArray 67)).alloc (.cells (zerosOf 16 .u8).toArray 67):=⟨_,rfl⟩
 have k0:Blk W w.heap.size 24 [.slice af nf cf,.int .i64 ff,.slice ak 0 ck,.slice at_ nt ct,.int .i64 tf,.slice ab nb cb,.string pan,.slice ad nd cd]:=by rw [hW];exact ((Blk.new w _ _).alloc _).alloc _
 have k1:Blk W (w.heap.size + 1) 67 (K.map byte):=by rw [hW];exact (Blk.new2 w _ _ _).alloc _
 have k2:Blk W (w.heap.size + 1 + 1) 67 (zerosOf 16 .u8):=by rw [hW];exact Blk.newAt _ _ _ _ (by simp)
 have bW:Below w.heap.size w W:=by rw [hW];exact (((Below.refl _ w).alloc (Nat.le_refl _) _).alloc (by simp) _).alloc (by simp;omega) _
 go_enter Tryz.func63,Tryz.ntmps63
 go_upto_region 1 with fail
 rw [← hW]
 obtain ⟨V,hV⟩:∃ V,V = World.drew W:=⟨_,rfl⟩
 have kV0:Blk V w.heap.size 24 [.slice af nf cf,.int .i64 ff,.slice ak 0 ck,.slice at_ nt ct,.int .i64 tf,.slice ab nb cb,.string pan,.slice ad nd cd]:=by rw [hV];exact k0.drew1
 have kV1:Blk V (w.heap.size + 1) 67 (K.map byte):=by rw [hV];exact k1.drew1
 have kV2:Blk V (w.heap.size + 1 + 1) 67 (zerosOf 16 .u8):=by rw [hV];exact k2.drew1
 have bV:Below w.heap.size w V:=by rw [hV];exact bW.drew
 have b_0:Below (w.heap.size + 1 + 1) V V:=Below.refl _ _
 have keep:Hid (∀ {x},Below (w.heap.size + 1 + 1) V x → x.rangeAt (w.heap.size + 1) 0 (K.map byte) ∧ x.cell? ⟨w.heap.size,2,none⟩ = some (.slice ak 0 ck)):=fun {x} h=>⟨blk_whole (show Blk x _ _ _ from (h.block _ (by omega)).trans kV1),(h.cell (p:=⟨w.heap.size,2,none⟩) (by show w.heap.size < w.heap.size + 1 + 1;omega)).trans (kV0.cell 2 (by simp))⟩
 have le2:(w.heap.size + 1 + 1) ≤ (w.heap.size + 1 + 1):=Nat.le_refl _
 refine wp_region_held_drew (S:=fun x=>x.rangeAt (w.heap.size + 1) 0 (K.map byte) ∧ x.cell? ⟨w.heap.size,2,none⟩ = some (.slice ak 0 ck)) (by kernel_rfl) (by rw [← hV];exact keep.out b_0) (fun hHeld=>?_)
 rw [← hV] at hHeld ⊢
 clear hV hW k0 k1 k2 bW kV0 kV1
 refine tk (i:=0) (v:=(.agg (K.map byte).toArray)) rfl (yieldsIf_load_mid (by rfl) 67 _ rfl (w.heap.size + 1) 0 rfl (K.map byte) _ (fun _ h=>h.1) Tryz.underlying67 rfl (by rw [hKm];kernel_rfl)) hHeld ?_
 try dsimp only [Act.put]
 refine tk (i:=1) (v:=(.pointer (some ⟨w.heap.size,2,none⟩))) rfl (Or.inl ⟨by rfl,?_⟩) hHeld ?_
 · intro _ _;go_simp
 dsimp only [Act.put,List.getElem_toArray,List.getElem_cons_zero,List.getElem_cons_succ]
 simp only [List.setIfInBounds_toArray,List.set_cons_succ,List.set_cons_zero]
 refine tk (i:=2) (v:=(.slice ak 0 ck)) rfl (Or.inl ⟨by rfl,fun w1 h=>by have hc:=h.2;go_simp⟩) hHeld ?_
 try dsimp only [Act.put]
 refine tk (i:=3) (v:=(.int .i64 (0))) rfl (Or.inl ⟨by rfl,?_⟩) hHeld ?_
 · intro _ _;go_simp
 dsimp only [Act.put,List.getElem_toArray,List.getElem_cons_zero,List.getElem_cons_succ]
 simp only [List.setIfInBounds_toArray,List.set_cons_succ,List.set_cons_zero]
 refine tk (i:=4) (v:=(.bool true)) rfl (Or.inl ⟨by rfl,?_⟩) hHeld ?_
 · intro _ _;go_simp
 try dsimp only [Act.put]
 refine rdy1 5 (fun KQ hK=>?_)
 rw [if_pos (by rfl)]
 refine wp_store_blk rfl 67 _ _ rfl (w.heap.size + 1 + 1) rfl rfl kV2 (by rw [hKm];kernel_rfl) (by rw [hKm];exact zerosOf_length _ _) (allOne_bytes _) ?_
 have G_1:=Blk.setRow kV2 (K.map byte)
 have b_1:=below_setRow' (g:=(w.heap.size + 1 + 1)) b_0 le2 (K.map byte).toArray
 refine hK.out _ _ (keep.out b_1) (fun hHeld=>?_)
 clear hK KQ
 try dsimp only [Act.put]
 refine rdy1 6 (fun KQ hK=>?_)
 go_simp
 refine hK.out _ _ (keep.out b_1) (fun hHeld=>?_)
 clear hK KQ
 try dsimp only [Act.put]
 refine wpAnyH_done (by kernel_rfl) ?_ _
 go_wp2_with fail
 exact ⟨rfl,_,results_blk_tmp Tryz.results63 _ _ rfl G_1 Tryz.underlying67 rfl (by rw [hKm];kernel_rfl),rfl,bV.trans (b_1.mono (by omega))⟩
set_option maxRecDepth 100000 in
set_option maxHeartbeats 1000000 in
theorem zone_no (K:List UInt8) (af ak at_ ab ad:Option Addr) (nf cf nk ck nt ct nb cb nd cd:Nat) (ff tf:Int) (pan:ByteArray) (w:World) (hKl:K.length = 16) (hn0:¬ nk = 0) :
   Calls Tryz.prog 63 #[.agg ([.slice af nf cf,.int .i64 ff,.slice ak nk ck,.slice at_ nt ct,.int .i64 tf,.slice ab nb cb,.string pan,.slice ad nd cd]:List Value).toArray,.agg (K.map byte).toArray] w fun e w'=>e = .returned (.tuple #[.agg (K.map byte).toArray,.bool false]) ∧ Below w.heap.size w w':=by
 have hKm:(K.map byte).length = 16:=by rw [List.length_map,hKl]
 have hKs:(K.map byte).toArray.size = 16:=by simpa using hKl
 have hz16:=(zero_of_info Tryz.z16).1
 have hne:((nk:Int) == 0) = false:=by rw [beq_eq_false_iff_ne];omega
 have hne2:¬ (nk:Int) = 0:=by omega
 obtain ⟨W,hW⟩:∃ W,W = ((w.alloc (.cells ([.slice af nf cf,.int .i64 ff,.slice ak nk ck,.slice at_ nt ct,.int .i64 tf,.slice ab nb cb,.string pan,.slice ad nd cd]:List Value).toArray 24)).alloc (.cells (K.map byte).toArray 67)).alloc (.cells (zerosOf 16 .u8).toArray 67):=⟨_,rfl⟩
 have k0:Blk W w.heap.size 24 [.slice af nf cf,.int .i64 ff,.slice ak nk ck,.slice at_ nt ct,.int .i64 tf,.slice ab nb cb,.string pan,.slice ad nd cd]:=by rw [hW];exact ((Blk.new w _ _).alloc _).alloc _
 have k1:Blk W (w.heap.size + 1) 67 (K.map byte):=by rw [hW];exact (Blk.new2 w _ _ _).alloc _
 have k2:Blk W (w.heap.size + 1 + 1) 67 (zerosOf 16 .u8):=by rw [hW];exact Blk.newAt _ _ _ _ (by simp)
 have bW:Below w.heap.size w W:=by rw [hW];exact (((Below.refl _ w).alloc (Nat.le_refl _) _).alloc (by simp) _).alloc (by simp;omega) _
 go_enter Tryz.func63,Tryz.ntmps63
 go_upto_region 1 with fail
 rw [← hW]
 obtain ⟨V,hV⟩:∃ V,V = World.drew W:=⟨_,rfl⟩
 have kV0:Blk V w.heap.size 24 [.slice af nf cf,.int .i64 ff,.slice ak nk ck,.slice at_ nt ct,.int .i64 tf,.slice ab nb cb,.string pan,.slice ad nd cd]:=by rw [hV];exact k0.drew1
 have kV1:Blk V (w.heap.size + 1) 67 (K.map byte):=by rw [hV];exact k1.drew1
 have kV2:Blk V (w.heap.size + 1 + 1) 67 (zerosOf 16 .u8):=by rw [hV];exact k2.drew1
 have bV:Below w.heap.size w V:=by rw [hV];exact bW.drew
 have b_0:Below (w.heap.size + 1 + 1) V V:=Below.refl _ _
 have keep:Hid (∀ {x},Below (w.heap.size + 1 + 1) V x → x.rangeAt (w.heap.size + 1) 0 (K.map byte) ∧ x.cell? ⟨w.heap.size,2,none⟩ = some (.slice ak nk ck)):=fun {x} h=>⟨blk_whole (show Blk x _ _ _ from (h.block _ (by omega)).trans kV1),(h.cell (p:=⟨w.heap.size,2,none⟩) (by show w.heap.size < w.heap.size + 1 + 1;omega)).trans (kV0.cell 2 (by simp))⟩
 have le2:(w.heap.size + 1 + 1) ≤ (w.heap.size + 1 + 1):=Nat.le_refl _
 refine wp_region_held_drew (S:=fun x=>x.rangeAt (w.heap.size + 1) 0 (K.map byte) ∧ x.cell? ⟨w.heap.size,2,none⟩ = some (.slice ak nk ck)) (by kernel_rfl) (by rw [← hV];exact keep.out b_0) (fun hHeld=>?_)
 rw [← hV] at hHeld ⊢
 clear hV hW k0 k1 k2 bW kV0 kV1
 refine tk (i:=0) (v:=(.agg (K.map byte).toArray)) rfl (yieldsIf_load_mid (by rfl) 67 _ rfl (w.heap.size + 1) 0 rfl (K.map byte) _ (fun _ h=>h.1) Tryz.underlying67 rfl (by rw [hKm];kernel_rfl)) hHeld ?_
 dsimp only [Act.put,List.getElem_toArray,List.getElem_cons_zero,List.getElem_cons_succ]
 simp only [List.setIfInBounds_toArray,List.set_cons_succ,List.set_cons_zero]
 refine tk (i:=1) (v:=(.pointer (some ⟨w.heap.size,2,none⟩))) rfl (Or.inl ⟨by rfl,?_⟩) hHeld ?_
 · intro _ _;go_simp
 try dsimp only [Act.put]
 refine tk (i:=2) (v:=(.slice ak nk ck)) rfl (Or.inl ⟨by rfl,fun w1 h=>by have hc:=h.2;go_simp⟩) hHeld ?_
 dsimp only [Act.put,List.getElem_toArray,List.getElem_cons_zero,List.getElem_cons_succ]
 simp only [List.setIfInBounds_toArray,List.set_cons_succ,List.set_cons_zero]
 refine tk (i:=3) (v:=(.int .i64 (nk:Int))) rfl (Or.inl ⟨by rfl,?_⟩) hHeld ?_
 · intro _ _;go_simp
 try dsimp only [Act.put]
 refine tk (i:=4) (v:=(.bool false)) rfl (Or.inl ⟨by rfl,?_⟩) hHeld ?_
 · intro _ _;go_simp
 dsimp only [Act.put,List.getElem_toArray,List.getElem_cons_zero,List.getElem_cons_succ]
 simp only [List.setIfInBounds_toArray,List.set_cons_succ,List.set_cons_zero]
 refine rdy1 5 (fun KQ hK=>?_)
 rw [if_pos (by rfl)]
 refine wp_store_blk rfl 67 _ _ rfl (w.heap.size + 1 + 1) rfl rfl kV2 (by rw [hKm];kernel_rfl) (by rw [hKm];exact zerosOf_length _ _) (allOne_bytes _) ?_
 have G_1:=Blk.setRow kV2 (K.map byte)
 have b_1:=below_setRow' (g:=(w.heap.size + 1 + 1)) b_0 le2 (K.map byte).toArray
 refine hK.out _ _ (keep.out b_1) (fun hHeld=>?_)
 clear hK KQ
 try dsimp only [Act.put]
 refine rdy1 6 (fun KQ hK=>?_)
 go_simp
 refine hK.out _ _ (keep.out b_1) (fun hHeld=>?_)
 clear hK KQ
 try dsimp only [Act.put]
 refine wpAnyH_done (by kernel_rfl) ?_ _
 go_wp2_with fail
 exact ⟨rfl,_,results_blk_tmp Tryz.results63 _ _ rfl G_1 Tryz.underlying67 rfl (by rw [hKm];kernel_rfl),rfl,bV.trans (b_1.mono (by omega))⟩
set_option maxRecDepth 100000 in
set_option maxHeartbeats 1000000 in
theorem serial_no (K:List UInt8) (af ak at_ ab ad:Option Addr) (nf cf nk ck nt ct nb cb nd cd:Nat) (ff tf:Int) (pan:ByteArray) (w:World) (hKl:K.length = 16) (hn0:¬ nk = 10) :
   Calls Tryz.prog 64 #[.agg ([.slice af nf cf,.int .i64 ff,.slice ak nk ck,.slice at_ nt ct,.int .i64 tf,.slice ab nb cb,.string pan,.slice ad nd cd]:List Value).toArray,.agg (K.map byte).toArray] w fun e w'=>e = .returned (.tuple #[.agg (zerosOf 16 .u8).toArray,.bool false]) ∧ Below w.heap.size w w':=by
 have hKs:(K.map byte).toArray.size = 16:=by simpa using hKl
 have hz16:=(zero_of_info Tryz.z16).1
 have hne:((nk:Int) != 10) = true:=by rw [bne_iff_ne];omega
 obtain ⟨W,hW⟩:∃ W,W = ((w.alloc (.cells ([.slice af nf cf,.int .i64 ff,.slice ak nk ck,.slice at_ nt ct,.int .i64 tf,.slice ab nb cb,.string pan,.slice ad nd cd]:List Value).toArray 24)).alloc (.cells (K.map byte).toArray 67)).alloc (.cells (zerosOf 16 .u8).toArray 67):=⟨_,rfl⟩
 have k2:Blk W (w.heap.size + 1 + 1) 67 (zerosOf 16 .u8):=by rw [hW];exact Blk.newAt _ _ _ _ (by simp)
 have bW:Below w.heap.size w W:=by rw [hW];exact (((Below.refl _ w).alloc (Nat.le_refl _) _).alloc (by simp) _).alloc (by simp;omega) _
 go_enter Tryz.func64,Tryz.ntmps64
 rw [hW] at k2 bW
 clear hW
 go_wp2_with (refine store_blk (cs:=zerosOf 16 .u8) rfl 67 _ _ rfl (w.heap.size + 1 + 1) rfl rfl k2 (by kernel_rfl) rfl (by kernel_rfl) ?_;intro w7 hb7 hg7 hs7)
 exact ⟨rfl,_,results_blk_tmp Tryz.results64 _ _ rfl hb7 Tryz.underlying67 rfl (by kernel_rfl),⟨rfl,bW.grown hg7 bW.size (by intro k hk;cases hk;omega)⟩⟩
set_option maxRecDepth 100000 in
set_option maxHeartbeats 2000000 in
theorem serial_yes (K ksn:List UInt8) (af ak at_ ab ad:Option Addr) (nf cf ck nt ct nb cb nd cd:Nat) (ff tf:Int) (pan:ByteArray) (w:World) (hKl:K.length = 16) (hsl:ksn.length = 10) (hck:10 ≤ ck) (rk:RowAt w ak ksn) :
   Calls Tryz.prog 64 #[.agg ([.slice af nf cf,.int .i64 ff,.slice ak 10 ck,.slice at_ nt ct,.int .i64 tf,.slice ab nb cb,.string pan,.slice ad nd cd]:List Value).toArray,.agg (K.map byte).toArray] w fun e w'=>e = .returned (.tuple #[.agg ((variantL (keyL K ksn) 1).map byte).toArray,.bool true]) ∧ Below w.heap.size w w':=by
 have hKm:(K.map byte).length = 16:=by rw [List.length_map,hKl]
 have hKs:(K.map byte).toArray.size = 16:=by simpa using hKl
 have hz16:=(zero_of_info Tryz.z16).1
 have hDl:(keyL K ksn).length = 16:=by unfold keyL;rw [if_pos ⟨hKl,hsl⟩];exact keyN16_length _ _
 have hXl:(variantL (keyL K ksn) 1).length = 16:=by
   unfold variantL
   rw [if_pos ⟨hDl,.inl rfl⟩,xorL_length _ _ (by rw [List.length_append,maskL_length,hDl])]
   exact hDl
 have HD:=hide (fun (g:Nat) (wx:World) (h1:RowAt wx (some ⟨g,0,none⟩) K) (h2:RowAt wx ak ksn)=>key_all K ksn (some ⟨g,0,none⟩) ak 16 ck wx (by omega) (by omega) (by omega) (by omega) h1 h2)
 have HV:=hide (fun (a:Option Addr) (c:Nat) (hc:16 ≤ c) (wx:World) (h1:RowAt wx a (keyL K ksn))=>variant_all (keyL K ksn) 1 a c wx (by omega) (by omega) (by omega) h1)
 rw [hKl,hsl] at HD
 rw [hDl] at HV
 obtain ⟨X,hX⟩:∃ X,X = variantL (keyL K ksn) 1:=⟨_,rfl⟩
 rw [← hX] at HV hXl ⊢
 obtain ⟨D,hD⟩:∃ D,D = keyL K ksn:=⟨_,rfl⟩
 rw [← hD] at HD HV hDl
 have hXm:(X.map byte).length = 16:=by rw [List.length_map,hXl]
 clear hX hD
 obtain ⟨W,hW⟩:∃ W,W = ((w.alloc (.cells ([.slice af nf cf,.int .i64 ff,.slice ak 10 ck,.slice at_ nt ct,.int .i64 tf,.slice ab nb cb,.string pan,.slice ad nd cd]:List Value).toArray 24)).alloc (.cells (K.map byte).toArray 67)).alloc (.cells (zerosOf 16 .u8).toArray 67):=⟨_,rfl⟩
 have k0:Blk W w.heap.size 24 [.slice af nf cf,.int .i64 ff,.slice ak 10 ck,.slice at_ nt ct,.int .i64 tf,.slice ab nb cb,.string pan,.slice ad nd cd]:=by rw [hW];exact ((Blk.new w _ _).alloc _).alloc _
 have k1:Blk W (w.heap.size + 1) 67 (K.map byte):=by rw [hW];exact (Blk.new2 w _ _ _).alloc _
 have k2:Blk W (w.heap.size + 1 + 1) 67 (zerosOf 16 .u8):=by rw [hW];exact Blk.newAt _ _ _ _ (by simp)
 have bW:Below w.heap.size w W:=by rw [hW];exact (((Below.refl _ w).alloc (Nat.le_refl _) _).alloc (by simp) _).alloc (by simp;omega) _
 go_enter Tryz.func64,Tryz.ntmps64
 go_upto_region 3 with fail
 rw [← hW]
 obtain ⟨V,hV⟩:∃ V,V = World.drew W:=⟨_,rfl⟩
 have kV0:Blk V w.heap.size 24 [.slice af nf cf,.int .i64 ff,.slice ak 10 ck,.slice at_ nt ct,.int .i64 tf,.slice ab nb cb,.string pan,.slice ad nd cd]:=by rw [hV];exact k0.drew1
 have kV1:Blk V (w.heap.size + 1) 67 (K.map byte):=by rw [hV];exact k1.drew1
 have kV2:Blk V (w.heap.size + 1 + 1) 67 (zerosOf 16 .u8):=by rw [hV];exact k2.drew1
 have bV:Below w.heap.size w V:=by rw [hV];exact bW.drew
 have lV:=kV2.lt
 have b_0:Below (w.heap.size + 1 + 1) V V:=Below.refl _ _
 have rKV:RowAt V (some ⟨(w.heap.size + 1),0,none⟩) K:=rowAt_block kV1
 have rkV:=rk.below bV
 have keep:Hid (∀ {x},Below (w.heap.size + 1 + 1) V x → x.cell? ⟨w.heap.size,2,none⟩ = some (.slice ak 10 ck)):=fun {x} h=>(h.cell (p:=⟨w.heap.size,2,none⟩) (by show w.heap.size < w.heap.size + 1 + 1;omega)).trans (kV0.cell 2 (by simp))
 have le2:(w.heap.size + 1 + 1) ≤ (w.heap.size + 1 + 1):=Nat.le_refl _
 have har:=fun (wx:World) (g c:Nat)=>run_arrayAt (P:=Tryz.prog) (w:=wx) 67 5 16 (some ⟨g,0,none⟩) 16 c Tryz.underlying67 (Nat.le_refl _)
 refine wp_region_held_drew (S:=fun x=>x.cell? ⟨w.heap.size,2,none⟩ = some (.slice ak 10 ck)) (by kernel_rfl) (by rw [← hV];exact keep.out b_0) (fun hHeld=>?_)
 rw [← hV] at hHeld ⊢
 clear hV hW k0 k1 k2 bW kV0 kV1 rk
 refine tk (i:=0) (v:=(.slice (some ⟨(w.heap.size + 1),0,none⟩) 16 16)) rfl (Or.inl ⟨by rfl,?_⟩) hHeld ?_
 · intro _ _;go_simp
 try dsimp only [Act.put]
 refine tk (i:=1) (v:=(.pointer (some ⟨w.heap.size,2,none⟩))) rfl (Or.inl ⟨by rfl,?_⟩) hHeld ?_
 · intro _ _;go_simp
 dsimp only [Act.put,List.getElem_toArray,List.getElem_cons_zero,List.getElem_cons_succ]
 simp only [List.setIfInBounds_toArray,List.set_cons_succ,List.set_cons_zero]
 refine tk (i:=2) (v:=(.slice ak 10 ck)) rfl (Or.inl ⟨by rfl,fun w1 h=>by have hc:=h;go_simp⟩) hHeld ?_
 try dsimp only [Act.put]
 refine rdy1 3 (fun KQ hK=>?_)
 go_simp
 refine (HD.out _ _ rKV rkV).mono ?_
 rintro e w_1 ⟨v_1,rfl,own_1,bel_1⟩
 have G_1:=kV2.below bel_1 kV2.lt
 have rK_1:=rKV.below bel_1
 have rk_1:=rkV.below bel_1
 have b_1:=b_0.trans (bel_1.mono (by have:=b_0.size;omega))
 obtain ⟨aD,cD,rfl,rD,hcD0⟩:=own_shape2 own_1
 have hcD:16 ≤ cD:=by omega
 rw [hDl]
 clear own_1
 go_wp2_with fail
 refine hK.out _ _ (keep.out b_1) (fun hHeld=>?_)
 clear hK KQ
 try dsimp only [Act.put]
 refine rdy1 4 (fun KQ hK=>?_)
 go_simp
 refine (HV.out _ _ hcD _ rD).mono ?_
 rintro e w_2 ⟨v_2,rfl,own_2,bel_2⟩
 have G_2:=G_1.below bel_2 G_1.lt
 have rK_2:=rK_1.below bel_2
 have rk_2:=rk_1.below bel_2
 have b_2:=b_1.trans (bel_2.mono (by have:=b_1.size;omega))
 obtain ⟨gX,cX,hcX,rfl,rX,bgX,lgX⟩:=own_2.at' hXl (by omega)
 clear own_2
 go_wp2_with fail
 refine hK.out _ _ (keep.out b_2) (fun hHeld=>?_)
 clear hK KQ
 try dsimp only [Act.put]
 refine tk (i:=5) (v:=(.pointer (some ⟨gX,0,none⟩))) rfl (Or.inl ⟨by rfl,?_⟩) hHeld ?_
 · intro _ _;go_simp
 dsimp only [Act.put,List.getElem_toArray,List.getElem_cons_zero,List.getElem_cons_succ]
 simp only [List.setIfInBounds_toArray,List.set_cons_succ,List.set_cons_zero]
 refine rdy1 6 (fun KQ hK=>?_)
 rw [if_pos (by rfl)]
 refine wp_load_to (some 17) rfl 67 _ rfl gX 0 rfl (X.map byte) _ rX Tryz.underlying67 rfl (by rw [hXm];kernel_rfl) ?_
 refine hK.out _ _ (keep.out b_2) (fun hHeld=>?_)
 clear hK KQ
 try dsimp only [Act.put]
 refine rdy1 7 (fun KQ hK=>?_)
 rw [if_pos (by rfl)]
 refine wp_store_blk rfl 67 _ _ rfl (w.heap.size + 1 + 1) rfl rfl G_2 (by rw [hXm];kernel_rfl) (by rw [hXm];exact zerosOf_length _ _) (allOne_bytes _) ?_
 have G_4:=Blk.setRow G_2 (X.map byte)
 have b_4:=below_setRow' (g:=(w.heap.size + 1 + 1)) b_2 le2 (X.map byte).toArray
 refine hK.out _ _ (keep.out b_4) (fun hHeld=>?_)
 clear hK KQ
 try dsimp only [Act.put]
 refine rdy1 8 (fun KQ hK=>?_)
 go_simp
 refine hK.out _ _ (keep.out b_4) (fun hHeld=>?_)
 clear hK KQ
 try dsimp only [Act.put]
 refine wpAnyH_done (by kernel_rfl) ?_ _
 go_wp2_with fail
 exact ⟨rfl,_,results_blk_tmp Tryz.results64 _ _ rfl G_4 Tryz.underlying67 rfl (by rw [hXm];kernel_rfl),rfl,bV.trans (b_4.mono (by omega))⟩
end Go.Proofs.YtoajfbkblpaejaaGreatDoor
