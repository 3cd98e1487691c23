import Derived.Test.YtjkofmomoljelaaGreatDoorSfAA
import Derived.Shelf.Strconv.Itoa3
import Derived.Shelf.LaysM
import Derived.Shelf.Strings.BuilderK
import Derived.Shelf.Strings.Repeat
import Derived.Test.YtjkofmomoljelaaGreatDoorProg
import Derived.Laws.AppendOwn
namespace Go.Proofs.YtjkofmomoljelaaGreatDoor
open Go.RowKit
/-- A row with its k-th bit set. -/
def setLI (l : List UInt8) (k : Nat) : List UInt8 := l.set (k / 8) (UInt8.ofNat ((l.getD (k / 8) 0).toNat ||| 2 ^ (7 - k % 8)))
theorem setLI_length (l : List UInt8) (k : Nat) : (setLI l k).length = l.length := by unfold setLI; simp
set_option maxRecDepth 100000 in
set_option maxHeartbeats 2000000 in
theorem setBit_any (l : List UInt8) (b cap t k : Nat) (w : World) (hn : l.length ≤ 1048576) (hk : k < 8 * l.length) (kB : Blk w b t (l.map byte)) :
    Calls Tryz.prog 66 #[.slice (some ⟨b, 0, none⟩) l.length cap, .int .i64 ((k + 1 : Nat) : Int)] w fun e w' => e = .returned (.tuple #[]) ∧ Blk w' b t ((setLI l k).map byte) ∧ w.grownBy w' (some b) ∧ w'.heap.size = w.heap.size := by
  obtain ⟨n, hnl⟩ : ∃ n, n = l.length := ⟨_, rfl⟩
  obtain ⟨j, hj⟩ : ∃ j, j = k / 8 := ⟨_, rfl⟩
  obtain ⟨r, hr8⟩ : ∃ r, r = k % 8 := ⟨_, rfl⟩
  obtain ⟨x, hx⟩ : ∃ x, x = (l.getD j 0).toNat := ⟨_, rfl⟩
  have hx8 : x < 256 := by rw [hx]; exact UInt8.toNat_lt _
  obtain ⟨s, hs⟩ : ∃ s, s = 2 ^ (7 - r) := ⟨_, rfl⟩
  have hs8 : s < 256 := by rw [hs]; exact Nat.lt_of_lt_of_le (Nat.pow_lt_pow_right (by omega) (show 7 - r < 8 by omega)) (Nat.le_refl _)
  obtain ⟨y, hy⟩ : ∃ y, y = x ||| s := ⟨_, rfl⟩
  have hor : bits BinOp.or IntKind.u8 (x : Int) (s : Int) = (y : Int) := by rw [hy]; exact u8_or_nat x s hx8 hs8
  obtain ⟨m, hm⟩ : ∃ m, m = k + 1 := ⟨_, rfl⟩
  have hwm : IntKind.i64.wrap ((m : Int) - 1) = (k : Int) := by rw [IntKind.wrap_i64]; omega
  have hq : (k : Int) / 8 = (j : Int) := by omega
  have hqt : (k : Int).tdiv 8 = (j : Int) := by rw [Int.tdiv_eq_ediv_of_nonneg (Int.natCast_nonneg _)]; exact hq
  have hwj : IntKind.i64.wrap (j : Int) = (j : Int) := by rw [IntKind.wrap_i64]; omega
  have hm8 : (k : Int) % 8 = (r : Int) := by omega
  have hmt : (k : Int).tmod 8 = (r : Int) := by rw [Int.tmod_eq_emod_of_nonneg (Int.natCast_nonneg _)]; exact hm8
  have hjn : j < n := by omega
  have hjI : (j : Int) < (n : Int) := by omega
  have hr7 : r < 8 := by omega
  have hsh : (128 : Int) / 2 ^ r = (s : Int) := by
    rw [hs]
    clear hs hs8 hy hor hmt hm8 hr8
    have : r = 0 ∨ r = 1 ∨ r = 2 ∨ r = 3 ∨ r = 4 ∨ r = 5 ∨ r = 6 ∨ r = 7 := by omega
    rcases this with rfl | rfl | rfl | rfl | rfl | rfl | rfl | rfl <;> rfl
  have cW : w.cell? ⟨b, j, none⟩ = some (.int .u8 (x : Int)) := by
    rw [kB.cell j (by rw [List.length_map]; omega)]
    have hjl : j < l.length := by omega
    rw [List.getElem_map, hx, List.getD_eq_getElem?_getD, List.getElem?_eq_getElem hjl]
    rfl
  have fW := kB.free j
  have HFIN : Hid ((l.map byte).set j (.int .u8 (y : Int)) = (setLI l k).map byte) := by
    show _ = _
    unfold setLI
    rw [List.map_set, ← hj, ← hx, ← hr8, ← hs, ← hy]
    congr 1
    unfold byte
    rw [UInt8.toNat_ofNat']
    have hyb : y < 256 := by rw [hy]; exact Nat.or_lt_two_pow (n := 8) hx8 hs8
    rw [Nat.mod_eq_of_lt hyb]
  rw [← hnl, ← hm]
  clear hnl hj hr8 hx hs hy hm
  go_enter Tryz.func66, Tryz.ntmps66
  go_upto_region 0 with fail
  obtain ⟨V, hV⟩ : ∃ V, V = World.drew w := ⟨_, rfl⟩
  have kV : Blk V b t (l.map byte) := by rw [hV]; exact kB.drew1
  have cV : V.cell? ⟨b, j, none⟩ = some (.int .u8 (x : Int)) := by rw [hV]; exact cW
  have fV : V.frozen? ⟨b, j, none⟩ = false := by rw [hV]; exact fW
  have gV : w.grownBy V (some b) := by rw [hV]; exact grown_drewT (grown_of_below (Below.refl _ _) _)
  have sV : V.heap.size = w.heap.size := by rw [hV]; rfl
  have keep : Hid (∀ {P : Prop}, P → True) := fun _ => trivial
  refine wp_region_held_drew (S := fun _ => True) (by kernel_rfl) trivial (fun hHeld => ?_)
  rw [← hV]
  clear hV
  refine wpAnyH_take (i := 0) (v := (.slice (some ⟨b, 0, none⟩) n cap)) rfl (by kernel_rfl) (by kernel_rfl) (by kernel_rfl) (fun _ _ _ h => h) (Or.inl ⟨by rfl, ?_⟩) hHeld ?_
  · intro _ _; go_simp
  dsimp only [Act.put, List.getElem_toArray, List.getElem_cons_zero, List.getElem_cons_succ]
  simp only [List.setIfInBounds_toArray, List.set_cons_succ, List.set_cons_zero]
  refine wpAnyH_take (i := 1) (v := (.int .i64 (m : Int))) rfl (by kernel_rfl) (by kernel_rfl) (by kernel_rfl) (fun _ _ _ h => h) (Or.inl ⟨by rfl, ?_⟩) hHeld ?_
  · intro _ _; go_simp
  dsimp only [Act.put, List.getElem_toArray, List.getElem_cons_zero, List.getElem_cons_succ]
  simp only [List.setIfInBounds_toArray, List.set_cons_succ, List.set_cons_zero]
  refine wpAnyH_take (i := 2) (v := (.int .i64 (k : Int))) rfl (by kernel_rfl) (by kernel_rfl) (by kernel_rfl) (fun _ _ _ h => h) (Or.inl ⟨by rfl, ?_⟩) hHeld ?_
  · intro _ _; go_simp
  dsimp only [Act.put, List.getElem_toArray, List.getElem_cons_zero, List.getElem_cons_succ]
  simp only [List.setIfInBounds_toArray, List.set_cons_succ, List.set_cons_zero]
  refine wpAnyH_take (i := 3) (v := (.int .i64 (j : Int))) rfl (by kernel_rfl) (by kernel_rfl) (by kernel_rfl) (fun _ _ _ h => h) (Or.inl ⟨by rfl, ?_⟩) hHeld ?_
  · intro _ _; go_simp
  dsimp only [Act.put, List.getElem_toArray, List.getElem_cons_zero, List.getElem_cons_succ]
  simp only [List.setIfInBounds_toArray, List.set_cons_succ, List.set_cons_zero]
  refine wpAnyH_take (i := 4) (v := (.pointer (some ⟨b, j, none⟩))) rfl (by kernel_rfl) (by kernel_rfl) (by kernel_rfl) (fun _ _ _ h => h) (Or.inl ⟨by rfl, ?_⟩) hHeld ?_
  · intro _ _; go_simp
  dsimp only [Act.put, List.getElem_toArray, List.getElem_cons_zero, List.getElem_cons_succ]
  simp only [List.setIfInBounds_toArray, List.set_cons_succ, List.set_cons_zero]
  refine wpAnyH_take (i := 6) (v := (.int .i64 (m : Int))) rfl (by kernel_rfl) (by kernel_rfl) (by kernel_rfl) (fun _ _ _ h => h) (Or.inl ⟨by rfl, ?_⟩) hHeld ?_
  · intro _ _; go_simp
  dsimp only [Act.put, List.getElem_toArray, List.getElem_cons_zero, List.getElem_cons_succ]
  simp only [List.setIfInBounds_toArray, List.set_cons_succ, List.set_cons_zero]
  refine wpAnyH_take (i := 7) (v := (.int .i64 (k : Int))) rfl (by kernel_rfl) (by kernel_rfl) (by kernel_rfl) (fun _ _ _ h => h) (Or.inl ⟨by rfl, ?_⟩) hHeld ?_
  · intro _ _; go_simp
  dsimp only [Act.put, List.getElem_toArray, List.getElem_cons_zero, List.getElem_cons_succ]
  simp only [List.setIfInBounds_toArray, List.set_cons_succ, List.set_cons_zero]
  refine wpAnyH_take (i := 8) (v := (.int .i64 (r : Int))) rfl (by kernel_rfl) (by kernel_rfl) (by kernel_rfl) (fun _ _ _ h => h) (Or.inl ⟨by rfl, ?_⟩) hHeld ?_
  · intro _ _; go_simp
  dsimp only [Act.put, List.getElem_toArray, List.getElem_cons_zero, List.getElem_cons_succ]
  simp only [List.setIfInBounds_toArray, List.set_cons_succ, List.set_cons_zero]
  refine wpAnyH_take (i := 9) (v := (.int .u8 (s : Int))) rfl (by kernel_rfl) (by kernel_rfl) (by kernel_rfl) (fun _ _ _ h => h) (Or.inl ⟨by rfl, ?_⟩) hHeld ?_
  · intro _ _; go_simp
  dsimp only [Act.put, List.getElem_toArray, List.getElem_cons_zero, List.getElem_cons_succ]
  simp only [List.setIfInBounds_toArray, List.set_cons_succ, List.set_cons_zero]
  refine wpAnyH_ready (rs := [5]) (by kernel_rfl) (by simp) ?_
  refine AllReadyH.cons rfl (fun K hK => ?_) (AllReadyH.nil)
  go_simp
  refine hK.out _ _ (keep.out cV) (fun hHeld => ?_)
  clear hK K
  try dsimp only [Act.put]
  refine wpAnyH_take (i := 10) (v := (.int .u8 (y : Int))) rfl (by kernel_rfl) (by kernel_rfl) (by kernel_rfl) (fun _ _ _ h => h) (Or.inl ⟨by rfl, ?_⟩) hHeld ?_
  · intro _ _; go_simp
  dsimp only [Act.put, List.getElem_toArray, List.getElem_cons_zero, List.getElem_cons_succ]
  simp only [List.setIfInBounds_toArray, List.set_cons_succ, List.set_cons_zero]
  refine wpAnyH_take (i := 11) (v := (.pointer (some ⟨b, j, none⟩))) rfl (by kernel_rfl) (by kernel_rfl) (by kernel_rfl) (fun _ _ _ h => h) (Or.inl ⟨by rfl, ?_⟩) hHeld ?_
  · intro _ _; go_simp
  dsimp only [Act.put, List.getElem_toArray, List.getElem_cons_zero, List.getElem_cons_succ]
  simp only [List.setIfInBounds_toArray, List.set_cons_succ, List.set_cons_zero]
  refine wpAnyH_ready (rs := [12]) (by kernel_rfl) (by simp) ?_
  refine AllReadyH.cons rfl (fun K hK => ?_) (AllReadyH.nil)
  go_simp
  refine hK.out _ _ (keep.out cV) (fun hHeld => ?_)
  clear hK K
  try dsimp only [Act.put]
  refine wpAnyH_done (by kernel_rfl) ?_ _
  have kF := kV.set j (.int .u8 (y : Int))
  rw [show (l.map byte).set j (.int .u8 (y : Int)) = _ from HFIN] at kF
  refine bodyPost_end (results_none rfl _ _ _) rfl ⟨rfl, kF, grown_trans gV (grown_setCellT V ⟨b, j, none⟩ (.int .u8 (y : Int))), ?_⟩
  rw [← sV]
  simp
end Go.Proofs.YtjkofmomoljelaaGreatDoor
namespace Go.Proofs
open Go.Shelf
def Tryz.laysM171_ren :Go.Shelf.Ren:=⟨fun | 171=>136 | 243=>158 | 246=>189 | 283=>201 | 284=>202 | 285=>203 | 286=>204 | 129=>210 | 317=>209 | 318=>211 | 319=>212 | 320=>213 | 337=>214 | 338=>215 | n=>n,fun | 3=>3 | 9=>9 | 2=>2 | 4=>4 | 171=>263 | 0=>0 | 53=>180 | 37=>22 | 5=>5 | 173=>266 | 212=>277 | 51=>149 | 20=>20 | 213=>278 | 46=>40 | 232=>271 | 233=>231 | n=>n,fun | 17=>4 | 18=>6 | 19=>7 | n=>n⟩
theorem Tryz.laysM171 :Go.Proofs.LaysM.n171 Tryz.prog Tryz.laysM171_ren:={
 mixed:=by kernel_rfl
 f129:=Tryz.func210.trans (congrArg some (by kernel_rfl))
 f171:=Tryz.func136.trans (congrArg some (by kernel_rfl))
 f243:=Tryz.func158.trans (congrArg some (by kernel_rfl))
 f246:=Tryz.func189.trans (congrArg some (by kernel_rfl))
 f283:=Tryz.func201.trans (congrArg some (by kernel_rfl))
 f284:=Tryz.func202.trans (congrArg some (by kernel_rfl))
 f285:=Tryz.func203.trans (congrArg some (by kernel_rfl))
 f286:=Tryz.func204.trans (congrArg some (by kernel_rfl))
 f317:=Tryz.func209.trans (congrArg some (by kernel_rfl))
 f318:=Tryz.func211.trans (congrArg some (by kernel_rfl))
 f319:=Tryz.func212.trans (congrArg some (by kernel_rfl))
 f320:=Tryz.func213.trans (congrArg some (by kernel_rfl))
 f337:=Tryz.func214.trans (congrArg some (by kernel_rfl))
 f338:=Tryz.func215.trans (congrArg some (by kernel_rfl))
 t0:=Tryz.underlying0
 a0:=Tryz.isAgg0
 z0:=Tryz.sizeOf0
 v0:=Tryz.zeroValue0
 t2:=Tryz.underlying2
 a2:=Tryz.isAgg2
 z2:=Tryz.sizeOf2
 v2:=Tryz.zeroValue2
 t3:=Tryz.underlying3
 a3:=Tryz.isAgg3
 z3:=Tryz.sizeOf3
 v3:=Tryz.zeroValue3
 t4:=Tryz.underlying4
 a4:=Tryz.isAgg4
 z4:=Tryz.sizeOf4
 v4:=Tryz.zeroValue4
 t5:=Tryz.underlying5
 a5:=Tryz.isAgg5
 z5:=Tryz.sizeOf5
 v5:=Tryz.zeroValue5
 t9:=Tryz.underlying9
 a9:=Tryz.isAgg9
 z9:=Tryz.sizeOf9
 v9:=Tryz.zeroValue9
 t20:=Tryz.underlying20
 a20:=Tryz.isAgg20
 z20:=Tryz.sizeOf20
 v20:=Tryz.zeroValue20
 t37:=Tryz.underlying22
 a37:=Tryz.isAgg22
 z37:=Tryz.sizeOf22
 v37:=Tryz.zeroValue22
 t46:=Tryz.underlying40
 a46:=Tryz.isAgg40
 z46:=Tryz.sizeOf40
 v46:=Tryz.zeroValue40
 t51:=Tryz.underlying149
 a51:=Tryz.isAgg149
 z51:=Tryz.sizeOf149
 v51:=Tryz.zeroValue149
 t53:=Tryz.underlying180
 a53:=Tryz.isAgg180
 z53:=Tryz.sizeOf180
 v53:=Tryz.zeroValue180
 t171:=Tryz.underlying263
 a171:=Tryz.isAgg263
 z171:=Tryz.sizeOf263
 v171:=Tryz.zeroValue263
 t173:=Tryz.underlying266
 a173:=Tryz.isAgg266
 z173:=Tryz.sizeOf266
 v173:=Tryz.zeroValue266
 t212:=Tryz.underlying277
 a212:=Tryz.isAgg277
 z212:=Tryz.sizeOf277
 v212:=Tryz.zeroValue277
 t213:=Tryz.underlying278
 a213:=Tryz.isAgg278
 z213:=Tryz.sizeOf278
 t232:=Tryz.underlying271
 a232:=Tryz.isAgg271
 z232:=Tryz.sizeOf271
 v232:=Tryz.zeroValue271
 t233:=Tryz.underlying231
 a233:=Tryz.isAgg231
 z233:=Tryz.sizeOf231
 v233:=Tryz.zeroValue231
 g17:=by kernel_rfl
 g18:=by kernel_rfl
 g19:=by kernel_rfl
 i0:=by kernel_rfl
 i2:=by kernel_rfl
 i3:=by kernel_rfl
 i4:=by kernel_rfl
 i5:=by kernel_rfl
 i9:=by kernel_rfl
 i20:=by kernel_rfl
 i37:=by kernel_rfl
 i46:=by kernel_rfl
 i51:=by kernel_rfl
 i53:=by kernel_rfl
 i171:=by kernel_rfl
 i173:=by kernel_rfl
 i212:=by kernel_rfl
 i232:=by kernel_rfl
 i233:=by kernel_rfl
 m17:=by kernel_rfl
 m18:=by kernel_rfl
 m19:=by kernel_rfl }
open Go.RowKit Go.Sort Go.Lib in
theorem Tryz.strconv_Itoa (n:Int) (h0:-9223372036854775808 ≤ n) (h1:n ≤ 9223372036854775807) (w:World) (htab:Lib.TabIs Tryz.prog w "internal/strconv.uint64pow10" .u64 Lib.pow10Tab) :
   Calls Tryz.prog 136 #[.int .i64 n] w fun e w'=>e = .returned (.string ⟨(Lib.itoa n).toArray⟩) ∧ ∃ k os,w' = grow (w.drewN k) os:=Any.strconv_Itoa Tryz.laysM171 n h0 h1 w htab
def Tryz.lays105_ren :Go.Shelf.Ren:=⟨fun | 105=>137 | 212=>159 | 99=>160 | 165=>161 | 166=>162 | 170=>163 | 169=>164 | 263=>190 | 264=>191 | 206=>192 | 240=>193 | 241=>194 | 276=>205 | 277=>206 | n=>n,fun | 9=>9 | 3=>3 | 4=>4 | 20=>20 | 0=>0 | 46=>40 | 109=>219 | 5=>5 | 72=>224 | 76=>198 | 51=>149 | 146=>246 | 53=>180 | 148=>248 | 70=>222 | 37=>22 | 75=>177 | 127=>250 | 164=>268 | 80=>226 | n=>n,fun | n=>n⟩
theorem Tryz.lays105 :Go.Proofs.Lays.n105 Tryz.prog Tryz.lays105_ren:={
 mixed:=by kernel_rfl
 f99:=Tryz.func160.trans (congrArg some (by kernel_rfl))
 f105:=Tryz.func137.trans (congrArg some (by kernel_rfl))
 f165:=Tryz.func161.trans (congrArg some (by kernel_rfl))
 f166:=Tryz.func162.trans (congrArg some (by kernel_rfl))
 f169:=Tryz.func164.trans (congrArg some (by kernel_rfl))
 f170:=Tryz.func163.trans (congrArg some (by kernel_rfl))
 f206:=Tryz.func192.trans (congrArg some (by kernel_rfl))
 f212:=Tryz.func159.trans (congrArg some (by kernel_rfl))
 f240:=Tryz.func193.trans (congrArg some (by kernel_rfl))
 f241:=Tryz.func194.trans (congrArg some (by kernel_rfl))
 f263:=Tryz.func190.trans (congrArg some (by kernel_rfl))
 f264:=Tryz.func191.trans (congrArg some (by kernel_rfl))
 f276:=Tryz.func205.trans (congrArg some (by kernel_rfl))
 f277:=Tryz.func206.trans (congrArg some (by kernel_rfl))
 t0:=Tryz.underlying0
 a0:=Tryz.isAgg0
 z0:=Tryz.sizeOf0
 v0:=Tryz.zeroValue0
 t3:=Tryz.underlying3
 a3:=Tryz.isAgg3
 z3:=Tryz.sizeOf3
 v3:=Tryz.zeroValue3
 t4:=Tryz.underlying4
 a4:=Tryz.isAgg4
 z4:=Tryz.sizeOf4
 v4:=Tryz.zeroValue4
 t5:=Tryz.underlying5
 a5:=Tryz.isAgg5
 z5:=Tryz.sizeOf5
 v5:=Tryz.zeroValue5
 t9:=Tryz.underlying9
 a9:=Tryz.isAgg9
 z9:=Tryz.sizeOf9
 v9:=Tryz.zeroValue9
 t20:=Tryz.underlying20
 a20:=Tryz.isAgg20
 z20:=Tryz.sizeOf20
 v20:=Tryz.zeroValue20
 t37:=Tryz.underlying22
 a37:=Tryz.isAgg22
 z37:=Tryz.sizeOf22
 v37:=Tryz.zeroValue22
 t46:=Tryz.underlying40
 a46:=Tryz.isAgg40
 z46:=Tryz.sizeOf40
 v46:=Tryz.zeroValue40
 t51:=Tryz.underlying149
 a51:=Tryz.isAgg149
 z51:=Tryz.sizeOf149
 v51:=Tryz.zeroValue149
 t53:=Tryz.underlying180
 a53:=Tryz.isAgg180
 z53:=Tryz.sizeOf180
 v53:=Tryz.zeroValue180
 t70:=Tryz.underlying222
 a70:=Tryz.isAgg222
 z70:=Tryz.sizeOf222
 v70:=Tryz.zeroValue222
 t72:=Tryz.underlying224
 a72:=Tryz.isAgg224
 z72:=Tryz.sizeOf224
 v72:=Tryz.zeroValue224
 t75:=Tryz.underlying177
 a75:=Tryz.isAgg177
 z75:=Tryz.sizeOf177
 v75:=Tryz.zeroValue177
 t76:=Tryz.underlying198
 a76:=Tryz.isAgg198
 z76:=Tryz.sizeOf198
 v76:=Tryz.zeroValue198
 t109:=Tryz.underlying219
 a109:=Tryz.isAgg219
 z109:=Tryz.sizeOf219
 v109:=Tryz.zeroValue219
 t127:=Tryz.underlying250
 a127:=Tryz.isAgg250
 z127:=Tryz.sizeOf250
 v127:=Tryz.zeroValue250
 t146:=Tryz.underlying246
 a146:=Tryz.isAgg246
 z146:=Tryz.sizeOf246
 v146:=Tryz.zeroValue246
 t148:=Tryz.underlying248
 a148:=Tryz.isAgg248
 z148:=Tryz.sizeOf248
 v148:=Tryz.zeroValue248
 t164:=Tryz.underlying268
 a164:=Tryz.isAgg268
 z164:=Tryz.sizeOf268
 v164:=Tryz.zeroValue268 }
theorem Tryz.Builder_Extra_105 :Builder.Extra Tryz.prog Tryz.lays105_ren:={
 sizeBuilder:=by kernel_rfl
 liesBuilder:=by kernel_rfl
 t5:=Tryz.underlying5
 a5:=Tryz.isAgg5
 z5:=Tryz.sizeOf5
 v5:=Tryz.zeroValue5
 infoByte:=by kernel_rfl
 cellsByte:=by kernel_rfl
 sizeByte:=by kernel_rfl
 neB5:=by decide }
open Go.RowKit Go.Lib in
theorem Tryz.strings_Repeat (s:ByteArray) (c:Nat) (w:World) (hc:c ≤ 9223372036854775807) (hlen:s.size * c ≤ 140737488355328) :
   Calls Tryz.prog 137 #[.string s,.int .i64 c] w fun e w'=>e = .returned (.string ⟨(Lib.repeatL s.data.toList c).toArray⟩) ∧ Below w.heap.size w w':=Any.strings_Repeat Tryz.lays105 Tryz.Builder_Extra_105 s c w hc hlen
end Go.Proofs
namespace Go.Proofs.YtjkofmomoljelaaGreatDoor
open Go.RowKit
/-- A number in so many digits. -/
def padL : Nat → Nat → List UInt8
  | 0, _ => []
  | d + 1, n => padL d (n / 10) ++ [UInt8.ofNat (48 + n % 10)]
theorem padL_length : ∀ d n, (padL d n).length = d
  | 0, _ => rfl
  | d + 1, n => by unfold padL; rw [List.length_append, padL_length d]; rfl
theorem repeat_snoc (c : Nat) : Lib.repeatL [48] (c + 1) = Lib.repeatL [48] c ++ [48] := by
  induction c with
  | zero => rfl
  | succ c ih => show 48 :: Lib.repeatL [48] (c + 1) = 48 :: (Lib.repeatL [48] c ++ [48]); rw [ih]
theorem padL_zero : ∀ d, padL d 0 = Lib.repeatL [48] d
  | 0 => rfl
  | d + 1 => by unfold padL; rw [show 0 / 10 = 0 from rfl, padL_zero d, repeat_snoc]; rfl
theorem pad_eq : ∀ d n, n < 10 ^ (d + 1) → (Lib.decDigits n).length ≤ d + 1 ∧ Lib.repeatL [48] (d + 1 - (Lib.decDigits n).length) ++ Lib.decDigits n = padL (d + 1) n := by
  intro d
  induction d with
  | zero =>
    intro n hn
    have h : n < 10 := by simpa using hn
    rw [Lib.decDigits, dif_pos h]
    refine ⟨Nat.le_refl _, ?_⟩
    show [] ++ _ = padL 0 (n / 10) ++ [UInt8.ofNat (48 + n % 10)]
    rw [Nat.mod_eq_of_lt h]
    rfl
  | succ d ih =>
    intro n hn
    by_cases h : n < 10
    · rw [Lib.decDigits, dif_pos h]
      refine ⟨by simp, ?_⟩
      show Lib.repeatL [48] (d + 1) ++ [UInt8.ofNat (48 + n)] = padL (d + 1) (n / 10) ++ [UInt8.ofNat (48 + n % 10)]
      rw [Nat.mod_eq_of_lt h, Nat.div_eq_of_lt h, padL_zero]
    · have h2 : n / 10 < 10 ^ (d + 1) := by rw [Nat.pow_succ] at hn; omega
      obtain ⟨i1, i2⟩ := ih (n / 10) h2
      rw [Lib.decDigits, dif_neg h, List.length_append]
      refine ⟨by simp; omega, ?_⟩
      show _ = padL (d + 1) (n / 10) ++ [UInt8.ofNat (48 + n % 10)]
      rw [← i2, ← List.append_assoc]
      congr 2
      simp
set_option maxRecDepth 100000 in
set_option maxHeartbeats 1000000 in
theorem inDigits_any (N d : Nat) (w : World) (htab : Lib.TabIs Tryz.prog w "internal/strconv.uint64pow10" .u64 Lib.pow10Tab) (hd : d ≤ 2) (hN : N < 10 ^ (d + 1)) :
    Calls Tryz.prog 106 #[.int .i64 (N : Int), .int .i64 ((d + 1 : Nat) : Int)] w fun e w' => e = .returned (.string ⟨(padL (d + 1) N).toArray⟩) ∧ Below w.heap.size w w' := by
  obtain ⟨p1, p2⟩ := pad_eq d N hN
  have hNb : N < 1000 := Nat.lt_of_lt_of_le hN (Nat.le_trans (Nat.pow_le_pow_right (by omega) (show d + 1 ≤ 3 by omega)) (Nat.le_refl _))
  have HI := hideT (Tryz.strconv_Itoa (N : Int) (by omega) (by omega) w htab)
  have eit : Lib.itoa (N : Int) = Lib.decDigits N := by unfold Lib.itoa; rw [if_neg (by omega)]; rfl
  rw [eit] at HI
  obtain ⟨dd, hdd⟩ : ∃ l, l = Lib.decDigits N := ⟨_, rfl⟩
  rw [← hdd] at HI p1 p2
  have HRP := hideT (fun (wx : World) => Tryz.strings_Repeat ⟨#[48]⟩ (d + 1 - dd.length) wx (by omega) (by show 1 * _ ≤ _; omega))
  obtain ⟨cz, hcz⟩ : ∃ c, c = d + 1 - dd.length := ⟨_, rfl⟩
  rw [← hcz] at HRP p2
  have hsz : (⟨dd.toArray⟩ : ByteArray).size = dd.length := by simp [ByteArray.size]
  have hwr : IntKind.i64.wrap (((d + 1 : Nat) : Int) - ((⟨dd.toArray⟩ : ByteArray).size : Int)) = (cz : Int) := by rw [hsz, IntKind.wrap_i64]; omega
  obtain ⟨D1, hD1⟩ : ∃ m, m = d + 1 := ⟨_, rfl⟩
  rw [← hD1] at hwr p2 ⊢
  have hD3 : D1 ≤ 3 := by omega
  have HP := hideT p2
  obtain ⟨S, hS⟩ : ∃ s : ByteArray, s = ⟨dd.toArray⟩ := ⟨_, rfl⟩
  rw [← hS] at HI hwr
  have HS := hideT hS
  clear hdd hcz hsz hD1 hS p1 p2 eit htab
  go_enter Tryz.func106, Tryz.ntmps106
  go_wp2_with fail
  refine HI.out.mono ?_
  rintro e w1 ⟨rfl, k1, os1, hw1⟩
  have b1 : Below w.heap.size w w1 := by
    rw [hw1]
    exact ⟨rfl, rfl, rfl, by show w.heap.size ≤ (w.heap ++ os1).size; simp, fun j hj => by show (w.heap ++ os1)[j]? = w.heap[j]?; rw [Array.getElem?_append_left hj]⟩
  clear hw1 HI
  obtain ⟨A, hA⟩ : ∃ s : ByteArray, s = ⟨(Lib.repeatL [48] cz).toArray⟩ := ⟨_, rfl⟩
  rw [← hA] at HRP
  have hAS : A ++ S = ⟨(padL D1 N).toArray⟩ := by
    rw [hA, show S = _ from HS, ← show _ = padL D1 N from HP]
    apply ByteArray.ext
    simp
  have hsum : A.size + S.size ≤ 9223372036854775807 := by
    have h := congrArg ByteArray.size hAS
    have h2 : (⟨(padL D1 N).toArray⟩ : ByteArray).size = D1 := by rw [show (⟨(padL D1 N).toArray⟩ : ByteArray).size = (padL D1 N).length from by simp [ByteArray.size], padL_length]
    rw [h2, ByteArray.size_append] at h
    omega
  have HAS := hideT hAS
  clear hA hAS
  have hsr := fun (wx : World) => run_string_add_sum (P := Tryz.prog) wx A S hsum
  go_wp2_with fail
  refine (HRP.out _).mono ?_
  rintro e w2 ⟨rfl, b2⟩
  have b12 := b1.trans (b2.mono b1.size)
  go_wp2_with fail
  go_ret
  exact ⟨by rw [← show A ++ S = _ from HAS]; rfl, b12⟩
set_option maxRecDepth 100000 in
set_option maxHeartbeats 1000000 in
theorem lengthOf_any {T : Nat} {x r : Value} {FE d l m : Nat} {ok : UInt8 → Bool} {sz : List UInt8 → Nat} {sd : List UInt8 → Bool} (K : Kd T x r FE d l m ok sz sd) (N : Nat) (ao : Option Addr) (cap : Nat) (w : World) (hT : ∀ w', Below w.heap.size w w' → Lib.TabIs Tryz.prog w' "internal/strconv.uint64pow10" .u64 Lib.pow10Tab) (hN : N < 10 ^ d ∨ d = 0) :
    Calls Tryz.prog 67 #[.iface T x, .slice ao N cap] w fun e w' => e = .returned (.string ⟨(padL d N).toArray⟩) ∧ Below w.heap.size w w' := by
  have mE := K.mE
  have cF := K.cF
  have HE := hideT K.HE
  have hd3 := K.d3
  have hfd := fun (wx : World) => (show (Instr.field 117 (.agg #[.int .i64 (d : Int), .int .i64 (l : Int), .int .i64 (m : Int)]) 0).run Tryz.prog wx = .ok (.int .i64 (d : Int)) wx by kernel_rfl)
  have HTT := hideT hT
  clear hT
  by_cases h0 : d = 0
  · have hdb : ((d : Int) == 0) = true := by rw [beq_iff_eq]; omega
    have HP0 : Hid (padL d N = []) := by rw [h0]; exact (rfl : padL 0 N = [])
    clear h0 hN hd3
    go_enter Tryz.func67, Tryz.ntmps67
    go_wp2_with fail
    refine (HE.out _).mono ?_
    rintro e w1 ⟨rfl, b1⟩
    go_wp2_with fail
    go_ret
    exact ⟨by rw [HP0.out]; rfl, b1⟩
  · have h0I : ¬ (d : Int) = 0 := by omega
    have HD := hideT (fun (wx : World) (h : Below w.heap.size w wx) => inDigits_any N (d - 1) wx (HTT.out wx h) (by omega) (by rw [show d - 1 + 1 = d from by omega]; omega))
    rw [show d - 1 + 1 = d from by omega] at HD
    clear hN h0
    go_enter Tryz.func67, Tryz.ntmps67
    go_wp2_with fail
    refine (HE.out _).mono ?_
    rintro e w1 ⟨rfl, b1⟩
    go_wp2_with fail
    refine (HD.out _ b1).mono ?_
    rintro e w2 ⟨rfl, b2⟩
    go_wp2_with fail
    go_ret
    exact ⟨rfl, b1.trans (b2.mono b1.size)⟩
set_option maxHeartbeats 1000000 in
theorem indexF_neg (no : Int) (hneg : no < 0) (g gb : Nat) (w : World) (kT : Blk w g 80 tabCellsI) (hb : w.cell? ⟨gb, 0, none⟩ = some (.int .i64 no)) :
    Calls Tryz.prog 103 #[.slice (some ⟨g, 0, none⟩) 14 14, .func (Fn.func 104) #[] #[.pointer (some ⟨gb, 0, none⟩)]] w fun e w' => e = .returned (.int .i64 (-1)) ∧ Below w.heap.size w w' := by
  have HT : Hid (∀ {x : World}, Below w.heap.size w x → ∀ k, k < 14 → x.cell? ⟨g, k * 2, none⟩ = some (.int .i64 (tabNos.getD k 0 : Nat)) ∧ x.cell? ⟨g, k * 2 + 1, none⟩ = some (tabKind k)) := by
    intro x hx k hk
    have e := tab_at k hk
    have kx := kT.below hx kT.lt
    have l1 : k * 2 < tabCellsI.length := by show k * 2 < 28; omega
    have l2 : k * 2 + 1 < tabCellsI.length := by show k * 2 + 1 < 28; omega
    rw [List.getElem?_eq_getElem l1, List.getElem?_eq_getElem l2] at e
    exact ⟨(kx.cell _ l1).trans e.1, (kx.cell _ l2).trans e.2⟩
  have hb0 := World.block_lt_of_cell? w _ hb
  have HB : Hid (∀ {x : World}, Below w.heap.size w x → x.cell? ⟨gb, 0, none⟩ = some (.int .i64 no)) := fun hx => (hx.cell (p := ⟨gb, 0, none⟩) hb0).trans hb
  clear kT hb
  go_enter Tryz.func103, Tryz.ntmps103
  go_wp2_with fail
  go_loopw [8] (fun i wr => ∃ k : Nat, k ≤ 14 ∧ i = .int .i64 k ∧ Below w.heap.size w wr) (fun i _ => 14 - (intOf i).toNat)
  case atStart => exact ⟨0, Nat.zero_le _, rfl, Below.refl _ _⟩
  case round =>
    obtain ⟨k, hk, rfl, hbel⟩ := hrel
    by_cases hlt : k < 14
    · obtain ⟨hx1, hx2⟩ := HT.out hbel k hlt
      have hlt' : (k : Int) < 14 := by omega
      obtain ⟨m, hm⟩ : ∃ m, m = tabNos.getD k 0 := ⟨_, rfl⟩
      obtain ⟨kd, hkd⟩ : ∃ v, v = tabKind k := ⟨_, rfl⟩
      rw [← hm] at hx1
      rw [← hkd] at hx2
      have hb1 := hbel.alloc hbel.size (Obj.cells #[.int .i64 (m : Int), kd] 80)
      have hbx := HB.out hb1
      clear hkd hm
      have he' : ¬ (m : Int) = no := by omega
      go_wp2
      go_roundw
      case rel => exact ⟨k + 1, by omega, by go_num, hb1⟩
      case measure => simp [intOf]; omega
    · have hlt' : ¬ (k : Int) < 14 := by omega
      go_wp2
      go_ret
      exact ⟨rfl, hbel⟩
set_option maxHeartbeats 1000000 in
theorem ruleOf_neg (no : Int) (hneg : no < 0) (g : Nat) (w : World) (kT : Blk w g 80 tabCellsI) :
    Calls Tryz.prog 64 #[.slice (some ⟨g, 0, none⟩) 14 14, .int .i64 no] w fun e w' => e = .returned (.int .i64 (-1)) ∧ Below w.heap.size w w' := by
  have bz := (Below.refl w.heap.size w).alloc (Nat.le_refl _) (Obj.cells #[.int .i64 no] 3)
  have HI := hideT (indexF_neg no hneg g w.heap.size (w.alloc (Obj.cells #[.int .i64 no] 3)) (kT.below bz kT.lt) ((Blk.new w 3 #[.int .i64 no]).cell 0 (by simp)))
  clear kT
  go_enter Tryz.func64, Tryz.ntmps64
  go_wp2_with (go_at_call 103; refine HI.out.mono ?_; rintro e w2 ⟨rfl, b2⟩)
  go_ret
  exact ⟨rfl, bz.trans (b2.mono bz.size)⟩
/-- The place of a number, whatever it is, in the table. -/
def ruleZ (no : Int) : Int := if 0 ≤ no then ruleIx no.toNat else -1
theorem ruleOf_int (no : Int) (g : Nat) (w : World) (kT : Blk w g 80 tabCellsI) :
    Calls Tryz.prog 64 #[.slice (some ⟨g, 0, none⟩) 14 14, .int .i64 no] w fun e w' => e = .returned (.int .i64 (ruleZ no)) ∧ Below w.heap.size w w' := by
  unfold ruleZ
  by_cases h : 0 ≤ no
  · rw [if_pos h]
    have e := ruleOf_any no.toNat g w kT
    rw [Int.toNat_of_nonneg h] at e
    exact e
  · rw [if_neg h]
    exact ruleOf_neg no (by omega) g w kT
end Go.Proofs.YtjkofmomoljelaaGreatDoor
namespace Go.Proofs.YtjkofmomoljelaaGreatDoor
open Go.RowKit
/-- A row of fields that is read. -/
structure Fr (w : World) (v : Value) (L : List (Int × List UInt8)) : Prop where
  sh : ∃ ao cap, v = .slice ao L.length cap
  at_ : ∀ i, i < L.length → ∃ g o cap ai ci, v = .slice (some ⟨g, o, none⟩) L.length cap ∧ w.cell? ⟨g, o + i * 2, none⟩ = some (.int .i64 (L.getD i (0, [])).1) ∧ w.cell? ⟨g, o + i * 2 + 1, none⟩ = some (.slice ai (L.getD i (0, [])).2.length ci) ∧ RowAt w ai (L.getD i (0, [])).2
theorem Fr.below {w w' : World} {v : Value} {L : List (Int × List UInt8)} (h : Fr w v L) (hb : Below w.heap.size w w') : Fr w' v L := by
  refine ⟨h.sh, fun i hi => ?_⟩
  obtain ⟨g, o, cap, ai, ci, e, c1, c2, r⟩ := h.at_ i hi
  have hl := World.block_lt_of_cell? w _ c1
  exact ⟨g, o, cap, ai, ci, e, (hb.cell (p := ⟨g, o + i * 2, none⟩) hl).trans c1, (hb.cell (p := ⟨g, o + i * 2 + 1, none⟩) hl).trans c2, r.below hb⟩
def bef (L : List (Int × List UInt8)) : Nat → Int
  | 0 => 0
  | i + 1 => (L.getD i (0, [])).1
def inZ (no : Int) : Bool := decide (0 ≤ no) && decide (no.toNat ∈ tabNos)
def fitZ (no : Int) (d : List UInt8) : Bool := inZ no && fitsN (kpL no.toNat) (kpM no.toNat) (kpOk no.toNat) d
def okF (b : Int) (p : Int × List UInt8) : Bool := decide (b < p.1) && fitZ p.1 p.2
def okL (L : List (Int × List UInt8)) : Bool := (List.range L.length).all (fun j => okF (bef L j) (L.getD j (0, [])))
theorem okL_no (L : List (Int × List UInt8)) (i : Nat) (hi : i < L.length) (h : okF (bef L i) (L.getD i (0, [])) = false) : okL L = false := by
  unfold okL
  rw [List.all_eq_false]
  exact ⟨i, List.mem_range.2 hi, by rw [h]; decide⟩
theorem okL_yes (L : List (Int × List UInt8)) (h : ∀ i, i < L.length → okF (bef L i) (L.getD i (0, [])) = true) : okL L = true := by
  unfold okL
  rw [List.all_eq_true]
  intro i hi
  exact h i (List.mem_range.1 hi)
end Go.Proofs.YtjkofmomoljelaaGreatDoor
