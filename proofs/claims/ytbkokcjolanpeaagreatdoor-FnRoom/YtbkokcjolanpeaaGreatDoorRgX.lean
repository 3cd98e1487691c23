import Derived.Test.YtbkokcjolanpeaaGreatDoorRgW
import Derived.Laws.BitsAllLaws
import Derived.Deep.DeepCutAuto
import Derived.Deep.RegionHeld3
namespace Go.Proofs.YtbkokcjolanpeaaGreatDoor
open Go.RowKit
def bitL (l:List UInt8) (k:Nat):Bool:=(l.getD (k / 8) 0).toNat.testBit (7 - k % 8)
theorem and_bit (x i:Nat):((((x &&& 2 ^ i:Nat):Int)) != 0) = x.testBit i:=by
 cases h:x.testBit i with
 | true =>
   rw [bne_iff_ne]
   intro h0
   have h1:x &&& 2 ^ i = 0:=by omega
   have h2:(x &&& 2 ^ i).testBit i = true:=by rw [Nat.testBit_and,h,Nat.testBit_two_pow_self];rfl
   rw [h1,Nat.zero_testBit] at h2
   cases h2
 | false =>
   rw [bne_eq_false_iff_eq]
   have h1:x &&& 2 ^ i = 0:=by
     apply Nat.eq_of_testBit_eq
     intro j
     rw [Nat.testBit_and,Nat.zero_testBit,Nat.testBit_two_pow]
     by_cases hj:i = j
     · subst hj;rw [h];rfl
     · simp [hj]
   rw [h1]
   rfl
set_option maxRecDepth 100000 in
set_option maxHeartbeats 2000000 in
theorem hasBit_any (l:List UInt8) (ao:Option Addr) (cap k:Nat) (w:World) (hn:l.length ≤ 1048576) (hk:k < 8 * l.length) (hr:RowAt w ao l) :
   Calls Tryz.prog 149 #[.slice ao l.length cap,.int .i64 ((k + 1:Nat):Int)] w fun e w'=>e = .returned (.bool (bitL l k)) ∧ w' = w.drew:=by
 obtain ⟨n,hnl⟩:∃ n,n = l.length:=⟨_,rfl⟩
 obtain ⟨j,hj⟩:∃ j,j = k / 8:=⟨_,rfl⟩
 obtain ⟨r,hr8⟩:∃ r,r = k % 8:=⟨_,rfl⟩
 obtain ⟨x,hx⟩:∃ x,x = (l.getD j 0).toNat:=⟨_,rfl⟩
 obtain ⟨b,o,rfl,hc⟩:=hr.at (k:=j) (by omega)
 have cW:=hc j (by omega)
 rw [← hx] at cW
 have hx8:x < 256:=by rw [hx];exact UInt8.toNat_lt _
 obtain ⟨s,hs⟩:∃ s,s = 2 ^ (7 - r):=⟨_,rfl⟩
 have hs8:s < 256:=by rw [hs];exact Nat.lt_of_lt_of_le (Nat.pow_lt_pow_right (by omega) (show 7 - r < 8 by omega)) (Nat.le_refl _)
 obtain ⟨y,hy⟩:∃ y,y = x &&& s:=⟨_,rfl⟩
 obtain ⟨c,hcb⟩:∃ c,c = bitL l k:=⟨_,rfl⟩
 have HC:Hid (bitL l k = c):=hcb.symm
 have hyc:((y:Int) != 0) = c:=by
   rw [hy,hs,and_bit,hcb,hx,hj,hr8]
   rfl
 have hand:bits BinOp.and IntKind.u8 (x:Int) (s:Int) = (y:Int):=by rw [hy];exact u8_and_nat x s hx8 hs8
 obtain ⟨m,hm⟩:∃ m,m = k + 1:=⟨_,rfl⟩
 have hwm:IntKind.i64.wrap ((m:Int) - 1) = (k:Int):=by rw [IntKind.wrap_i64];omega
 have hq:(k:Int) / 8 = (j:Int):=by omega
 have hqt:(k:Int).tdiv 8 = (j:Int):=by rw [Int.tdiv_eq_ediv_of_nonneg (Int.natCast_nonneg _)];exact hq
 have hwj:IntKind.i64.wrap (j:Int) = (j:Int):=by rw [IntKind.wrap_i64];omega
 have hm8:(k:Int) % 8 = (r:Int):=by omega
 have hmt:(k:Int).tmod 8 = (r:Int):=by rw [Int.tmod_eq_emod_of_nonneg (Int.natCast_nonneg _)];exact hm8
 have hjn:j < n:=by omega
 have hjI:(j:Int) < (n:Int):=by omega
 have hr7:r < 8:=by omega
 have hsh:(128:Int) / 2 ^ r = (s:Int):=by
   rw [hs]
   clear hs hs8 hy hand hyc hmt hm8 hr8
   have:r = 0 ∨ r = 1 ∨ r = 2 ∨ r = 3 ∨ r = 4 ∨ r = 5 ∨ r = 6 ∨ r = 7:=by omega
   rcases this with rfl | rfl | rfl | rfl | rfl | rfl | rfl | rfl <;> rfl
 rw [← hnl,← hm]
 clear hnl hj hr8 hx hs hy hcb hm hr hc
 go_enter Tryz.func149,Tryz.ntmps149
 go_upto_region 1 with fail
 obtain ⟨V,hV⟩:∃ V,V = World.drew w:=⟨_,rfl⟩
 have cV:V.cell? ⟨b,o + j,none⟩ = some (.int .u8 (x:Int)):=by rw [hV];exact cW
 have HV:Hid (V = w.drew):=hV
 have keep:Hid (∀ {P:Prop},P → P):=fun h=>h
 refine wp_region_held_drew (S:=fun z=>z.cell? ⟨b,o + j,none⟩ = some (.int .u8 (x:Int))) (by kernel_rfl) (by exact cW) (fun hHeld=>?_)
 rw [← hV] at hHeld ⊢
 clear hV
 refine tkA (i:=0) (v:=(.slice (some ⟨b,o,none⟩) n cap)) rfl hHeld ?_
 try dsimp only [Act.put]
 refine tkA (i:=1) (v:=(.int .i64 (m:Int))) rfl hHeld ?_
 dsimp only [Act.put,List.getElem_toArray,List.getElem_cons_zero,List.getElem_cons_succ]
 simp only [List.setIfInBounds_toArray,List.set_cons_succ,List.set_cons_zero]
 refine tkA (i:=2) (v:=(.int .i64 (k:Int))) rfl hHeld ?_
 try dsimp only [Act.put]
 refine tkA (i:=3) (v:=(.int .i64 (j:Int))) rfl hHeld ?_
 dsimp only [Act.put,List.getElem_toArray,List.getElem_cons_zero,List.getElem_cons_succ]
 simp only [List.setIfInBounds_toArray,List.set_cons_succ,List.set_cons_zero]
 refine tkA (i:=4) (v:=(.pointer (some ⟨b,o + j,none⟩))) rfl hHeld ?_
 try dsimp only [Act.put]
 refine tk (i:=5) (v:=(.int .u8 (x:Int))) rfl (Or.inl ⟨by rfl,fun w1 h=>by have hc:=h;go_simp⟩) hHeld ?_
 dsimp only [Act.put,List.getElem_toArray,List.getElem_cons_zero,List.getElem_cons_succ]
 simp only [List.setIfInBounds_toArray,List.set_cons_succ,List.set_cons_zero]
 refine tkA (i:=6) (v:=(.int .i64 (m:Int))) rfl hHeld ?_
 try dsimp only [Act.put]
 refine tkA (i:=7) (v:=(.int .i64 (k:Int))) rfl hHeld ?_
 dsimp only [Act.put,List.getElem_toArray,List.getElem_cons_zero,List.getElem_cons_succ]
 simp only [List.setIfInBounds_toArray,List.set_cons_succ,List.set_cons_zero]
 refine tkA (i:=8) (v:=(.int .i64 (r:Int))) rfl hHeld ?_
 try dsimp only [Act.put]
 refine tkA (i:=9) (v:=(.int .u8 (s:Int))) rfl hHeld ?_
 dsimp only [Act.put,List.getElem_toArray,List.getElem_cons_zero,List.getElem_cons_succ]
 simp only [List.setIfInBounds_toArray,List.set_cons_succ,List.set_cons_zero]
 refine tkA (i:=10) (v:=(.int .u8 (y:Int))) rfl hHeld ?_
 try dsimp only [Act.put]
 refine tkA (i:=11) (v:=(.bool c)) rfl hHeld ?_
 dsimp only [Act.put,List.getElem_toArray,List.getElem_cons_zero,List.getElem_cons_succ]
 simp only [List.setIfInBounds_toArray,List.set_cons_succ,List.set_cons_zero]
 refine rdy1 12 (fun K hK=>?_)
 go_simp
 refine hK.out _ _ (keep.out cV) (fun hHeld=>?_)
 clear hK K
 try dsimp only [Act.put]
 refine wpAnyH_done (by kernel_rfl) ?_ _
 go_wp2_with fail
 go_ret
 exact ⟨by rw [HC.out];rfl,HV.out⟩
theorem grown_setCellT (w:World) (a:Addr) (v:Value):w.grownBy (w.setCell a v) (some a.block) :=
 ⟨rfl,rfl,rfl,by simp,fun k _ hk=>heap_setCell_other w a k v (fun e=>hk (by rw [e]))⟩
theorem grown_drewT {w w':World} {r:Option Nat} (h:w.grownBy w' r):w.grownBy w'.drew r:=⟨h.os,h.tape,h.output,h.size,h.block⟩
theorem below_newT (w:World) (o:Obj):Below w.heap.size w (w.alloc o):=(Below.refl _ w).alloc (Nat.le_refl _) o
def tabCellsI:List Value:=[.int .i64 2,.iface 179 (.agg #[.int .i64 2,.int .i64 13,.int .i64 19]),.int .i64 3,.iface 182 (.agg #[.int .i64 6]),.int .i64 4,.iface 182 (.agg #[.int .i64 12]),.int .i64 7,.iface 182 (.agg #[.int .i64 10]),.int .i64 11,.iface 182 (.agg #[.int .i64 6]),.int .i64 37,.iface 185 (.agg #[.int .i64 12]),.int .i64 39,.iface 185 (.agg #[.int .i64 2]),.int .i64 41,.iface 185 (.agg #[.int .i64 8]),.int .i64 48,.iface 188 (.agg #[.int .i64 3,.int .i64 0,.int .i64 200]),.int .i64 52,.iface 190 (.agg #[.int .i64 8]),.int .i64 53,.iface 190 (.agg #[.int .i64 10]),.int .i64 64,.iface 190 (.agg #[.int .i64 8]),.int .i64 70,.iface 182 (.agg #[.int .i64 3]),.int .i64 128,.iface 190 (.agg #[.int .i64 8])]
set_option maxRecDepth 100000 in
set_option maxHeartbeats 4000000 in
theorem fieldTable_any (w:World):Calls Tryz.prog 51 #[] w fun e w'=>e = .returned (.slice (some ⟨w.heap.size,0,none⟩) 14 14) ∧ Blk w' w.heap.size 118 tabCellsI ∧ Below w.heap.size w w':=by
 go_enter Tryz.func51,Tryz.ntmps51
 go_wp2
 go_ret
 exact ⟨rfl,Blk.new w _ _,below_newT _ _⟩
theorem ext_countedDigits (d l m:Int) (w:World):(Go.method 509 179 (.agg #[.int .i64 d,.int .i64 l,.int .i64 m]) "loop.example/s01728/impl.extent").run Tryz.prog w = .ok (290,.agg #[.int .i64 d,.int .i64 l,.int .i64 m]) w:=by kernel_rfl
theorem ext_countedBytes (d l m:Int) (w:World):(Go.method 509 188 (.agg #[.int .i64 d,.int .i64 l,.int .i64 m]) "loop.example/s01728/impl.extent").run Tryz.prog w = .ok (290,.agg #[.int .i64 d,.int .i64 l,.int .i64 m]) w:=by kernel_rfl
theorem ext_fixedDigits (n:Int) (w:World):(Go.method 509 182 (.agg #[.int .i64 n]) "loop.example/s01728/impl.extent").run Tryz.prog w = .ok (292,.int .i64 n) w:=by kernel_rfl
theorem ext_fixedText (n:Int) (w:World):(Go.method 509 185 (.agg #[.int .i64 n]) "loop.example/s01728/impl.extent").run Tryz.prog w = .ok (292,.int .i64 n) w:=by kernel_rfl
theorem ext_fixedBytes (n:Int) (w:World):(Go.method 509 190 (.agg #[.int .i64 n]) "loop.example/s01728/impl.extent").run Tryz.prog w = .ok (292,.int .i64 n) w:=by kernel_rfl
theorem all_countedDigits (d l m:Int) (w:World):(Go.method 509 179 (.agg #[.int .i64 d,.int .i64 l,.int .i64 m]) "loop.example/s01728/impl.allows").run Tryz.prog w = .ok (291,.agg #[]) w:=by kernel_rfl
theorem all_countedBytes (d l m:Int) (w:World):(Go.method 509 188 (.agg #[.int .i64 d,.int .i64 l,.int .i64 m]) "loop.example/s01728/impl.allows").run Tryz.prog w = .ok (294,.agg #[]) w:=by kernel_rfl
theorem all_fixedDigits (n:Int) (w:World):(Go.method 509 182 (.agg #[.int .i64 n]) "loop.example/s01728/impl.allows").run Tryz.prog w = .ok (291,.agg #[]) w:=by kernel_rfl
theorem all_fixedText (n:Int) (w:World):(Go.method 509 185 (.agg #[.int .i64 n]) "loop.example/s01728/impl.allows").run Tryz.prog w = .ok (293,.agg #[]) w:=by kernel_rfl
theorem all_fixedBytes (n:Int) (w:World):(Go.method 509 190 (.agg #[.int .i64 n]) "loop.example/s01728/impl.allows").run Tryz.prog w = .ok (294,.agg #[]) w:=by kernel_rfl
set_option maxHeartbeats 1000000 in
theorem extent_fixed (n:Int) (w:World):Calls Tryz.prog 292 #[.int .i64 n] w fun e w'=>e = .returned (.agg #[.int .i64 0,.int .i64 n,.int .i64 n]) ∧ Below w.heap.size w w':=by
 go_enter Tryz.func292,Tryz.ntmps292
 go_wp2
 exact bodyPost_ret (v:=.agg [.int .i64 0,.int .i64 n,.int .i64 n].toArray) (results_blk Tryz.results292 _ _ rfl (show Blk _ _ 193 [.int .i64 0,.int .i64 n,.int .i64 n] from Blk.new w _ #[.int .i64 0,.int .i64 n,.int .i64 n]) Tryz.underlying193 rfl (by kernel_rfl)) rfl ⟨rfl,below_newT _ _⟩
set_option maxHeartbeats 1000000 in
theorem extent_counted (d l m:Int) (w:World):Calls Tryz.prog 290 #[.agg #[.int .i64 d,.int .i64 l,.int .i64 m]] w fun e w'=>e = .returned (.agg #[.int .i64 d,.int .i64 l,.int .i64 m]) ∧ Below w.heap.size w w':=by
 go_enter Tryz.func290,Tryz.ntmps290
 go_wp2
 exact bodyPost_ret (v:=.agg [.int .i64 d,.int .i64 l,.int .i64 m].toArray) (results_blk Tryz.results290 _ _ rfl (show Blk _ _ 193 [.int .i64 d,.int .i64 l,.int .i64 m] from Blk.new2 w _ _ #[.int .i64 d,.int .i64 l,.int .i64 m]) Tryz.underlying193 rfl (by kernel_rfl)) rfl ⟨rfl,((Below.refl _ w).alloc (Nat.le_refl _) _).alloc (by simp) _⟩
set_option maxHeartbeats 1000000 in
theorem allow_digits (b:UInt8) (w:World):Calls Tryz.prog 291 #[.agg #[],.int .u8 (b.toNat:Int)] w fun e w'=>e = .returned (.bool (decide (48 ≤ b.toNat ∧ b.toNat ≤ 57))) ∧ Below w.heap.size w w':=by
 have hb:=UInt8.toNat_lt b
 obtain ⟨x,hx⟩:∃ x,x = b.toNat:=⟨_,rfl⟩
 rw [← hx] at hb ⊢
 clear hx
 have hw:IntKind.i32.wrap (x:Int) = (x:Int):=by rw [IntKind.wrap_i32];omega
 by_cases h1:48 ≤ x
 · have g1:(48:Int) ≤ (x:Int):=by omega
   by_cases h2:x ≤ 57
   · have g2:(x:Int) ≤ 57:=by omega
     rw [decide_eq_true ⟨h1,h2⟩]
     go_enter Tryz.func291,Tryz.ntmps291
     go_wp2
     go_ret
     exact ⟨rfl,below_newT _ _⟩
   · have g2:¬ ((x:Int) ≤ 57):=by omega
     rw [decide_eq_false (fun h=>h2 h.2)]
     go_enter Tryz.func291,Tryz.ntmps291
     go_wp2
     go_ret
     exact ⟨by simp,below_newT _ _⟩
 · have g1:¬ ((48:Int) ≤ (x:Int)):=by omega
   rw [decide_eq_false (fun h=>h1 h.1)]
   go_enter Tryz.func291,Tryz.ntmps291
   go_wp2
   go_ret
   exact ⟨rfl,below_newT _ _⟩
set_option maxHeartbeats 1000000 in
theorem allow_text (b:UInt8) (w:World):Calls Tryz.prog 293 #[.agg #[],.int .u8 (b.toNat:Int)] w fun e w'=>e = .returned (.bool (decide (32 ≤ b.toNat ∧ b.toNat ≤ 126))) ∧ Below w.heap.size w w':=by
 obtain ⟨x,hx⟩:∃ x,x = b.toNat:=⟨_,rfl⟩
 rw [← hx]
 clear hx
 by_cases h1:32 ≤ x
 · have g1:(32:Int) ≤ (x:Int):=by omega
   by_cases h2:x ≤ 126
   · have g2:(x:Int) ≤ 126:=by omega
     rw [decide_eq_true ⟨h1,h2⟩]
     go_enter Tryz.func293,Tryz.ntmps293
     go_wp2
     go_ret
     exact ⟨rfl,below_newT _ _⟩
   · have g2:¬ ((x:Int) ≤ 126):=by omega
     rw [decide_eq_false (fun h=>h2 h.2)]
     go_enter Tryz.func293,Tryz.ntmps293
     go_wp2
     go_ret
     exact ⟨by simp,below_newT _ _⟩
 · have g1:¬ ((32:Int) ≤ (x:Int)):=by omega
   rw [decide_eq_false (fun h=>h1 h.1)]
   go_enter Tryz.func293,Tryz.ntmps293
   go_wp2
   go_ret
   exact ⟨rfl,below_newT _ _⟩
set_option maxHeartbeats 1000000 in
theorem allow_bytes (b:UInt8) (w:World):Calls Tryz.prog 294 #[.agg #[],.int .u8 (b.toNat:Int)] w fun e w'=>e = .returned (.bool true) ∧ Below w.heap.size w w':=by
 go_enter Tryz.func294,Tryz.ntmps294
 go_wp2
 go_ret
 exact ⟨rfl,below_newT _ _⟩
theorem hideI {p:Prop} (h:p):Hid p:=h
def okDig (b:UInt8):Bool:=decide (48 ≤ b.toNat ∧ b.toNat ≤ 57)
def okTxt (b:UInt8):Bool:=decide (32 ≤ b.toNat ∧ b.toNat ≤ 126)
def okAny (_:UInt8):Bool:=true
theorem okAny_eq (b:UInt8) (w:World):Calls Tryz.prog 294 #[.agg #[],.int .u8 (b.toNat:Int)] w fun e w'=>e = .returned (.bool (okAny b)) ∧ Below w.heap.size w w':=allow_bytes b w
theorem okTxt_eq (b:UInt8) (w:World):Calls Tryz.prog 293 #[.agg #[],.int .u8 (b.toNat:Int)] w fun e w'=>e = .returned (.bool (okTxt b)) ∧ Below w.heap.size w w':=allow_text b w
theorem okDig_eq (b:UInt8) (w:World):Calls Tryz.prog 291 #[.agg #[],.int .u8 (b.toNat:Int)] w fun e w'=>e = .returned (.bool (okDig b)) ∧ Below w.heap.size w w':=allow_digits b w
set_option maxHeartbeats 1000000 in
theorem spans_any (d l m N:Nat) (w:World):Calls Tryz.prog 102 #[.agg #[.int .i64 (d:Int),.int .i64 (l:Int),.int .i64 (m:Int)],.int .i64 (N:Int)] w fun e w'=>e = .returned (.bool (decide (l ≤ N ∧ N ≤ m))) ∧ Below w.heap.size w w':=by
 by_cases h1:l ≤ N
 · have g1:(l:Int) ≤ (N:Int):=by omega
   by_cases h2:N ≤ m
   · have g2:(N:Int) ≤ (m:Int):=by omega
     rw [decide_eq_true ⟨h1,h2⟩]
     go_enter Tryz.func102,Tryz.ntmps102
     go_wp2
     go_ret
     exact ⟨by simp,below_newT _ _⟩
   · have g2:¬ ((N:Int) ≤ (m:Int)):=by omega
     rw [decide_eq_false (fun h=>h2 h.2)]
     go_enter Tryz.func102,Tryz.ntmps102
     go_wp2
     go_ret
     exact ⟨by simp,below_newT _ _⟩
 · have g1:¬ ((l:Int) ≤ (N:Int)):=by omega
   rw [decide_eq_false (fun h=>h1 h.1)]
   go_enter Tryz.func102,Tryz.ntmps102
   go_wp2
   go_ret
   exact ⟨by simp,below_newT _ _⟩
def fitsN (l m:Nat) (ok:UInt8 → Bool) (data:List UInt8):Bool:=decide (l ≤ data.length ∧ data.length ≤ m) && data.all ok
theorem all_take_succ (ok:UInt8 → Bool) (data:List UInt8) (k:Nat) (hk:k < data.length) (h:(data.take k).all ok = true):(data.take (k + 1)).all ok = ok (data.getD k 0):=by
 rw [List.take_succ_eq_append_getElem hk,List.all_append,h,Bool.true_and]
 simp [hk]
theorem all_false_of (ok:UInt8 → Bool) (data:List UInt8) (k:Nat) (hk:k < data.length) (h:ok (data.getD k 0) = false):data.all ok = false:=by
 rw [List.all_eq_false]
 exact ⟨data[k],List.getElem_mem hk,by simpa [hk] using h⟩
set_option maxRecDepth 100000 in
set_option maxHeartbeats 2000000 in
theorem fits_countedDigits (d l m:Nat) (data:List UInt8) (ao:Option Addr) (cap:Nat) (w:World) (hn:data.length ≤ 1048576) (hr:RowAt w ao data) :
   Calls Tryz.prog 53 #[.iface 179 (.agg #[.int .i64 (d:Int),.int .i64 (l:Int),.int .i64 (m:Int)]),.slice ao data.length cap] w fun e w'=>e = .returned (.bool (fitsN l m okDig data)) ∧ Below w.heap.size w w':=by
 have mE:=ext_countedDigits (d:Int) (l:Int) (m:Int)
 have mA:=all_countedDigits (d:Int) (l:Int) (m:Int)
 have HE:=hideI (fun (wx:World)=>extent_counted (d:Int) (l:Int) (m:Int) wx)
 have HA:=hideI (fun (b:UInt8) (wx:World)=>okDig_eq b wx)
 obtain ⟨N,hN⟩:∃ N,N = data.length:=⟨_,rfl⟩
 have HN:=hideI hN
 have hnN:N ≤ 1048576:=by rw [hN];exact hn
 have HS:=hideI (fun (wx:World)=>spans_any d l m N wx)
 rw [← hN]
 by_cases h1:l ≤ N ∧ N ≤ m
 · have HF:Hid (fitsN l m okDig data = data.all okDig):=by
     show _ = _
     unfold fitsN
     rw [← hN,decide_eq_true h1,Bool.true_and]
   rw [decide_eq_true h1] at HS
   clear hN h1
   go_enter Tryz.func53,Tryz.ntmps53
   go_wp2_with (first | (go_at_call 290;refine (HE.out _).mono ?_;rintro e wE ⟨rfl,bE⟩) | (go_at_call 102;refine (HS.out _).mono ?_;rintro e wS ⟨rfl,bS⟩))
   have b0:Below w.heap.size w wS:=bE.trans (bS.mono bE.size)
   clear bE bS
   go_loopw [15] (fun i wr=>∃ k:Nat,k ≤ N ∧ i = .int .i64 (k:Int) ∧ (data.take k).all okDig = true ∧ Below w.heap.size w wr) (fun i _=>N - (intOf i).toNat)
   case atStart=>exact ⟨0,Nat.zero_le _,rfl,rfl,b0⟩
   case round =>
     obtain ⟨k,hk,rfl,hall,hbx⟩:=hrel
     by_cases hlt:k < N
     · have hltI:(k:Int) < (N:Int):=by omega
       obtain ⟨b,o,rfl,hc⟩:=(hr.below hbx).at (k:=k) (by rw [← HN.out];exact hlt)
       have ck:=hc k (by rw [← HN.out];exact hlt)
       have hnext:=all_take_succ okDig data k (by rw [← HN.out];exact hlt) hall
       have hfail:=all_false_of okDig data k (by rw [← HN.out];exact hlt)
       have HAk:=hideI (HA.out (data.getD k 0))
       obtain ⟨y,hy⟩:∃ y,y = (data.getD k 0).toNat:=⟨_,rfl⟩
       rw [← hy] at ck HAk
       obtain ⟨okb,hob⟩:∃ c,c = okDig (data.getD k 0):=⟨_,rfl⟩
       rw [← hob] at HAk hnext hfail
       clear hy hob hc hall hr
       cases okb with
       | true =>
         clear hfail
         go_wp2_with (go_at_call 291;refine (HAk.out _).mono ?_;rintro e wA ⟨rfl,bA⟩)
         go_roundw
         case rel=>exact ⟨k + 1,by omega,by go_num,hnext,hbx.trans (bA.mono hbx.size)⟩
         case measure=>simp [intOf];omega
       | false =>
         have hf:=hfail rfl
         clear hfail hnext
         go_wp2_with (go_at_call 291;refine (HAk.out _).mono ?_;rintro e wA ⟨rfl,bA⟩)
         go_ret
         exact ⟨by rw [HF.out,hf];rfl,hbx.trans (bA.mono hbx.size)⟩
     · have hltI:¬ ((k:Int) < (N:Int)):=by omega
       have hka:data.all okDig = true:=by
         rw [List.take_of_length_le (by rw [← HN.out];omega)] at hall
         exact hall
       go_wp2_with fail
       go_ret
       exact ⟨by rw [HF.out,hka];rfl,hbx⟩
 · have HF:Hid (fitsN l m okDig data = false):=by
     show _ = _
     unfold fitsN
     rw [← hN,decide_eq_false h1,Bool.false_and]
   rw [decide_eq_false h1] at HS
   clear hN h1 hr
   go_enter Tryz.func53,Tryz.ntmps53
   go_wp2_with (first | (go_at_call 290;refine (HE.out _).mono ?_;rintro e wE ⟨rfl,bE⟩) | (go_at_call 102;refine (HS.out _).mono ?_;rintro e wS ⟨rfl,bS⟩))
   go_ret
   exact ⟨by rw [HF.out];rfl,bE.trans (bS.mono bE.size)⟩
set_option maxRecDepth 100000 in
set_option maxHeartbeats 2000000 in
theorem fits_countedBytes (d l m:Nat) (data:List UInt8) (ao:Option Addr) (cap:Nat) (w:World) (hn:data.length ≤ 1048576) (hr:RowAt w ao data) :
   Calls Tryz.prog 53 #[.iface 188 (.agg #[.int .i64 (d:Int),.int .i64 (l:Int),.int .i64 (m:Int)]),.slice ao data.length cap] w fun e w'=>e = .returned (.bool (fitsN l m okAny data)) ∧ Below w.heap.size w w':=by
 have mE:=ext_countedBytes (d:Int) (l:Int) (m:Int)
 have mA:=all_countedBytes (d:Int) (l:Int) (m:Int)
 have HE:=hideI (fun (wx:World)=>extent_counted (d:Int) (l:Int) (m:Int) wx)
 have HA:=hideI (fun (b:UInt8) (wx:World)=>okAny_eq b wx)
 obtain ⟨N,hN⟩:∃ N,N = data.length:=⟨_,rfl⟩
 have HN:=hideI hN
 have hnN:N ≤ 1048576:=by rw [hN];exact hn
 have HS:=hideI (fun (wx:World)=>spans_any d l m N wx)
 rw [← hN]
 by_cases h1:l ≤ N ∧ N ≤ m
 · have HF:Hid (fitsN l m okAny data = data.all okAny):=by
     show _ = _
     unfold fitsN
     rw [← hN,decide_eq_true h1,Bool.true_and]
   rw [decide_eq_true h1] at HS
   clear hN h1
   go_enter Tryz.func53,Tryz.ntmps53
   go_wp2_with (first | (go_at_call 290;refine (HE.out _).mono ?_;rintro e wE ⟨rfl,bE⟩) | (go_at_call 102;refine (HS.out _).mono ?_;rintro e wS ⟨rfl,bS⟩))
   have b0:Below w.heap.size w wS:=bE.trans (bS.mono bE.size)
   clear bE bS
   go_loopw [15] (fun i wr=>∃ k:Nat,k ≤ N ∧ i = .int .i64 (k:Int) ∧ (data.take k).all okAny = true ∧ Below w.heap.size w wr) (fun i _=>N - (intOf i).toNat)
   case atStart=>exact ⟨0,Nat.zero_le _,rfl,rfl,b0⟩
   case round =>
     obtain ⟨k,hk,rfl,hall,hbx⟩:=hrel
     by_cases hlt:k < N
     · have hltI:(k:Int) < (N:Int):=by omega
       obtain ⟨b,o,rfl,hc⟩:=(hr.below hbx).at (k:=k) (by rw [← HN.out];exact hlt)
       have ck:=hc k (by rw [← HN.out];exact hlt)
       have hnext:=all_take_succ okAny data k (by rw [← HN.out];exact hlt) hall
       have hfail:=all_false_of okAny data k (by rw [← HN.out];exact hlt)
       have HAk:=hideI (HA.out (data.getD k 0))
       obtain ⟨y,hy⟩:∃ y,y = (data.getD k 0).toNat:=⟨_,rfl⟩
       rw [← hy] at ck HAk
       obtain ⟨okb,hob⟩:∃ c,c = okAny (data.getD k 0):=⟨_,rfl⟩
       rw [← hob] at HAk hnext hfail
       clear hy hob hc hall hr
       cases okb with
       | true =>
         clear hfail
         go_wp2_with (go_at_call 294;refine (HAk.out _).mono ?_;rintro e wA ⟨rfl,bA⟩)
         go_roundw
         case rel=>exact ⟨k + 1,by omega,by go_num,hnext,hbx.trans (bA.mono hbx.size)⟩
         case measure=>simp [intOf];omega
       | false =>
         have hf:=hfail rfl
         clear hfail hnext
         go_wp2_with (go_at_call 294;refine (HAk.out _).mono ?_;rintro e wA ⟨rfl,bA⟩)
         go_ret
         exact ⟨by rw [HF.out,hf];rfl,hbx.trans (bA.mono hbx.size)⟩
     · have hltI:¬ ((k:Int) < (N:Int)):=by omega
       have hka:data.all okAny = true:=by
         rw [List.take_of_length_le (by rw [← HN.out];omega)] at hall
         exact hall
       go_wp2_with fail
       go_ret
       exact ⟨by rw [HF.out,hka];rfl,hbx⟩
 · have HF:Hid (fitsN l m okAny data = false):=by
     show _ = _
     unfold fitsN
     rw [← hN,decide_eq_false h1,Bool.false_and]
   rw [decide_eq_false h1] at HS
   clear hN h1 hr
   go_enter Tryz.func53,Tryz.ntmps53
   go_wp2_with (first | (go_at_call 290;refine (HE.out _).mono ?_;rintro e wE ⟨rfl,bE⟩) | (go_at_call 102;refine (HS.out _).mono ?_;rintro e wS ⟨rfl,bS⟩))
   go_ret
   exact ⟨by rw [HF.out];rfl,bE.trans (bS.mono bE.size)⟩
set_option maxRecDepth 100000 in
set_option maxHeartbeats 2000000 in
theorem fits_fixedDigits (n:Nat) (data:List UInt8) (ao:Option Addr) (cap:Nat) (w:World) (hn:data.length ≤ 1048576) (hr:RowAt w ao data) :
   Calls Tryz.prog 53 #[.iface 182 (.agg #[.int .i64 (n:Int)]),.slice ao data.length cap] w fun e w'=>e = .returned (.bool (fitsN n n okDig data)) ∧ Below w.heap.size w w':=by
 have mE:=ext_fixedDigits (n:Int)
 have mA:=all_fixedDigits (n:Int)
 have HE:=hideI (fun (wx:World)=>extent_fixed (n:Int) wx)
 have HA:=hideI (fun (b:UInt8) (wx:World)=>okDig_eq b wx)
 obtain ⟨N,hN⟩:∃ N,N = data.length:=⟨_,rfl⟩
 have HN:=hideI hN
 have hnN:N ≤ 1048576:=by rw [hN];exact hn
 have HS:=hideI (fun (wx:World)=>spans_any 0 n n N wx)
 rw [← hN]
 by_cases h1:n ≤ N ∧ N ≤ n
 · have HF:Hid (fitsN n n okDig data = data.all okDig):=by
     show _ = _
     unfold fitsN
     rw [← hN,decide_eq_true h1,Bool.true_and]
   rw [decide_eq_true h1] at HS
   clear hN h1
   go_enter Tryz.func53,Tryz.ntmps53
   go_wp2_with (first | (go_at_call 292;refine (HE.out _).mono ?_;rintro e wE ⟨rfl,bE⟩) | (go_at_call 102;refine (HS.out _).mono ?_;rintro e wS ⟨rfl,bS⟩))
   have b0:Below w.heap.size w wS:=bE.trans (bS.mono bE.size)
   clear bE bS
   go_loopw [15] (fun i wr=>∃ k:Nat,k ≤ N ∧ i = .int .i64 (k:Int) ∧ (data.take k).all okDig = true ∧ Below w.heap.size w wr) (fun i _=>N - (intOf i).toNat)
   case atStart=>exact ⟨0,Nat.zero_le _,rfl,rfl,b0⟩
   case round =>
     obtain ⟨k,hk,rfl,hall,hbx⟩:=hrel
     by_cases hlt:k < N
     · have hltI:(k:Int) < (N:Int):=by omega
       obtain ⟨b,o,rfl,hc⟩:=(hr.below hbx).at (k:=k) (by rw [← HN.out];exact hlt)
       have ck:=hc k (by rw [← HN.out];exact hlt)
       have hnext:=all_take_succ okDig data k (by rw [← HN.out];exact hlt) hall
       have hfail:=all_false_of okDig data k (by rw [← HN.out];exact hlt)
       have HAk:=hideI (HA.out (data.getD k 0))
       obtain ⟨y,hy⟩:∃ y,y = (data.getD k 0).toNat:=⟨_,rfl⟩
       rw [← hy] at ck HAk
       obtain ⟨okb,hob⟩:∃ c,c = okDig (data.getD k 0):=⟨_,rfl⟩
       rw [← hob] at HAk hnext hfail
       clear hy hob hc hall hr
       cases okb with
       | true =>
         clear hfail
         go_wp2_with (go_at_call 291;refine (HAk.out _).mono ?_;rintro e wA ⟨rfl,bA⟩)
         go_roundw
         case rel=>exact ⟨k + 1,by omega,by go_num,hnext,hbx.trans (bA.mono hbx.size)⟩
         case measure=>simp [intOf];omega
       | false =>
         have hf:=hfail rfl
         clear hfail hnext
         go_wp2_with (go_at_call 291;refine (HAk.out _).mono ?_;rintro e wA ⟨rfl,bA⟩)
         go_ret
         exact ⟨by rw [HF.out,hf];rfl,hbx.trans (bA.mono hbx.size)⟩
     · have hltI:¬ ((k:Int) < (N:Int)):=by omega
       have hka:data.all okDig = true:=by
         rw [List.take_of_length_le (by rw [← HN.out];omega)] at hall
         exact hall
       go_wp2_with fail
       go_ret
       exact ⟨by rw [HF.out,hka];rfl,hbx⟩
 · have HF:Hid (fitsN n n okDig data = false):=by
     show _ = _
     unfold fitsN
     rw [← hN,decide_eq_false h1,Bool.false_and]
   rw [decide_eq_false h1] at HS
   clear hN h1 hr
   go_enter Tryz.func53,Tryz.ntmps53
   go_wp2_with (first | (go_at_call 292;refine (HE.out _).mono ?_;rintro e wE ⟨rfl,bE⟩) | (go_at_call 102;refine (HS.out _).mono ?_;rintro e wS ⟨rfl,bS⟩))
   go_ret
   exact ⟨by rw [HF.out];rfl,bE.trans (bS.mono bE.size)⟩
set_option maxRecDepth 100000 in
set_option maxHeartbeats 2000000 in
theorem fits_fixedText (n:Nat) (data:List UInt8) (ao:Option Addr) (cap:Nat) (w:World) (hn:data.length ≤ 1048576) (hr:RowAt w ao data) :
   Calls Tryz.prog 53 #[.iface 185 (.agg #[.int .i64 (n:Int)]),.slice ao data.length cap] w fun e w'=>e = .returned (.bool (fitsN n n okTxt data)) ∧ Below w.heap.size w w':=by
 have mE:=ext_fixedText (n:Int)
 have mA:=all_fixedText (n:Int)
 have HE:=hideI (fun (wx:World)=>extent_fixed (n:Int) wx)
 have HA:=hideI (fun (b:UInt8) (wx:World)=>okTxt_eq b wx)
 obtain ⟨N,hN⟩:∃ N,N = data.length:=⟨_,rfl⟩
 have HN:=hideI hN
 have hnN:N ≤ 1048576:=by rw [hN];exact hn
 have HS:=hideI (fun (wx:World)=>spans_any 0 n n N wx)
 rw [← hN]
 by_cases h1:n ≤ N ∧ N ≤ n
 · have HF:Hid (fitsN n n okTxt data = data.all okTxt):=by
     show _ = _
     unfold fitsN
     rw [← hN,decide_eq_true h1,Bool.true_and]
   rw [decide_eq_true h1] at HS
   clear hN h1
   go_enter Tryz.func53,Tryz.ntmps53
   go_wp2_with (first | (go_at_call 292;refine (HE.out _).mono ?_;rintro e wE ⟨rfl,bE⟩) | (go_at_call 102;refine (HS.out _).mono ?_;rintro e wS ⟨rfl,bS⟩))
   have b0:Below w.heap.size w wS:=bE.trans (bS.mono bE.size)
   clear bE bS
   go_loopw [15] (fun i wr=>∃ k:Nat,k ≤ N ∧ i = .int .i64 (k:Int) ∧ (data.take k).all okTxt = true ∧ Below w.heap.size w wr) (fun i _=>N - (intOf i).toNat)
   case atStart=>exact ⟨0,Nat.zero_le _,rfl,rfl,b0⟩
   case round =>
     obtain ⟨k,hk,rfl,hall,hbx⟩:=hrel
     by_cases hlt:k < N
     · have hltI:(k:Int) < (N:Int):=by omega
       obtain ⟨b,o,rfl,hc⟩:=(hr.below hbx).at (k:=k) (by rw [← HN.out];exact hlt)
       have ck:=hc k (by rw [← HN.out];exact hlt)
       have hnext:=all_take_succ okTxt data k (by rw [← HN.out];exact hlt) hall
       have hfail:=all_false_of okTxt data k (by rw [← HN.out];exact hlt)
       have HAk:=hideI (HA.out (data.getD k 0))
       obtain ⟨y,hy⟩:∃ y,y = (data.getD k 0).toNat:=⟨_,rfl⟩
       rw [← hy] at ck HAk
       obtain ⟨okb,hob⟩:∃ c,c = okTxt (data.getD k 0):=⟨_,rfl⟩
       rw [← hob] at HAk hnext hfail
       clear hy hob hc hall hr
       cases okb with
       | true =>
         clear hfail
         go_wp2_with (go_at_call 293;refine (HAk.out _).mono ?_;rintro e wA ⟨rfl,bA⟩)
         go_roundw
         case rel=>exact ⟨k + 1,by omega,by go_num,hnext,hbx.trans (bA.mono hbx.size)⟩
         case measure=>simp [intOf];omega
       | false =>
         have hf:=hfail rfl
         clear hfail hnext
         go_wp2_with (go_at_call 293;refine (HAk.out _).mono ?_;rintro e wA ⟨rfl,bA⟩)
         go_ret
         exact ⟨by rw [HF.out,hf];rfl,hbx.trans (bA.mono hbx.size)⟩
     · have hltI:¬ ((k:Int) < (N:Int)):=by omega
       have hka:data.all okTxt = true:=by
         rw [List.take_of_length_le (by rw [← HN.out];omega)] at hall
         exact hall
       go_wp2_with fail
       go_ret
       exact ⟨by rw [HF.out,hka];rfl,hbx⟩
 · have HF:Hid (fitsN n n okTxt data = false):=by
     show _ = _
     unfold fitsN
     rw [← hN,decide_eq_false h1,Bool.false_and]
   rw [decide_eq_false h1] at HS
   clear hN h1 hr
   go_enter Tryz.func53,Tryz.ntmps53
   go_wp2_with (first | (go_at_call 292;refine (HE.out _).mono ?_;rintro e wE ⟨rfl,bE⟩) | (go_at_call 102;refine (HS.out _).mono ?_;rintro e wS ⟨rfl,bS⟩))
   go_ret
   exact ⟨by rw [HF.out];rfl,bE.trans (bS.mono bE.size)⟩
set_option maxRecDepth 100000 in
set_option maxHeartbeats 2000000 in
theorem fits_fixedBytes (n:Nat) (data:List UInt8) (ao:Option Addr) (cap:Nat) (w:World) (hn:data.length ≤ 1048576) (hr:RowAt w ao data) :
   Calls Tryz.prog 53 #[.iface 190 (.agg #[.int .i64 (n:Int)]),.slice ao data.length cap] w fun e w'=>e = .returned (.bool (fitsN n n okAny data)) ∧ Below w.heap.size w w':=by
 have mE:=ext_fixedBytes (n:Int)
 have mA:=all_fixedBytes (n:Int)
 have HE:=hideI (fun (wx:World)=>extent_fixed (n:Int) wx)
 have HA:=hideI (fun (b:UInt8) (wx:World)=>okAny_eq b wx)
 obtain ⟨N,hN⟩:∃ N,N = data.length:=⟨_,rfl⟩
 have HN:=hideI hN
 have hnN:N ≤ 1048576:=by rw [hN];exact hn
 have HS:=hideI (fun (wx:World)=>spans_any 0 n n N wx)
 rw [← hN]
 by_cases h1:n ≤ N ∧ N ≤ n
 · have HF:Hid (fitsN n n okAny data = data.all okAny):=by
     show _ = _
     unfold fitsN
     rw [← hN,decide_eq_true h1,Bool.true_and]
   rw [decide_eq_true h1] at HS
   clear hN h1
   go_enter Tryz.func53,Tryz.ntmps53
   go_wp2_with (first | (go_at_call 292;refine (HE.out _).mono ?_;rintro e wE ⟨rfl,bE⟩) | (go_at_call 102;refine (HS.out _).mono ?_;rintro e wS ⟨rfl,bS⟩))
   have b0:Below w.heap.size w wS:=bE.trans (bS.mono bE.size)
   clear bE bS
   go_loopw [15] (fun i wr=>∃ k:Nat,k ≤ N ∧ i = .int .i64 (k:Int) ∧ (data.take k).all okAny = true ∧ Below w.heap.size w wr) (fun i _=>N - (intOf i).toNat)
   case atStart=>exact ⟨0,Nat.zero_le _,rfl,rfl,b0⟩
   case round =>
     obtain ⟨k,hk,rfl,hall,hbx⟩:=hrel
     by_cases hlt:k < N
     · have hltI:(k:Int) < (N:Int):=by omega
       obtain ⟨b,o,rfl,hc⟩:=(hr.below hbx).at (k:=k) (by rw [← HN.out];exact hlt)
       have ck:=hc k (by rw [← HN.out];exact hlt)
       have hnext:=all_take_succ okAny data k (by rw [← HN.out];exact hlt) hall
       have hfail:=all_false_of okAny data k (by rw [← HN.out];exact hlt)
       have HAk:=hideI (HA.out (data.getD k 0))
       obtain ⟨y,hy⟩:∃ y,y = (data.getD k 0).toNat:=⟨_,rfl⟩
       rw [← hy] at ck HAk
       obtain ⟨okb,hob⟩:∃ c,c = okAny (data.getD k 0):=⟨_,rfl⟩
       rw [← hob] at HAk hnext hfail
       clear hy hob hc hall hr
       cases okb with
       | true =>
         clear hfail
         go_wp2_with (go_at_call 294;refine (HAk.out _).mono ?_;rintro e wA ⟨rfl,bA⟩)
         go_roundw
         case rel=>exact ⟨k + 1,by omega,by go_num,hnext,hbx.trans (bA.mono hbx.size)⟩
         case measure=>simp [intOf];omega
       | false =>
         have hf:=hfail rfl
         clear hfail hnext
         go_wp2_with (go_at_call 294;refine (HAk.out _).mono ?_;rintro e wA ⟨rfl,bA⟩)
         go_ret
         exact ⟨by rw [HF.out,hf];rfl,hbx.trans (bA.mono hbx.size)⟩
     · have hltI:¬ ((k:Int) < (N:Int)):=by omega
       have hka:data.all okAny = true:=by
         rw [List.take_of_length_le (by rw [← HN.out];omega)] at hall
         exact hall
       go_wp2_with fail
       go_ret
       exact ⟨by rw [HF.out,hka];rfl,hbx⟩
 · have HF:Hid (fitsN n n okAny data = false):=by
     show _ = _
     unfold fitsN
     rw [← hN,decide_eq_false h1,Bool.false_and]
   rw [decide_eq_false h1] at HS
   clear hN h1 hr
   go_enter Tryz.func53,Tryz.ntmps53
   go_wp2_with (first | (go_at_call 292;refine (HE.out _).mono ?_;rintro e wE ⟨rfl,bE⟩) | (go_at_call 102;refine (HS.out _).mono ?_;rintro e wS ⟨rfl,bS⟩))
   go_ret
   exact ⟨by rw [HF.out];rfl,bE.trans (bS.mono bE.size)⟩
end Go.Proofs.YtbkokcjolanpeaaGreatDoor
