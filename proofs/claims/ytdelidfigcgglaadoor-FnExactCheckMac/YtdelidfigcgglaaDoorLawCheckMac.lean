/-
  laws.FnExactCheckMac: the walk out of the contracts.
-/
import Derived.Test.YtdelidfigcgglaaDoorMacI
import Derived.Test.YtdelidfigcgglaaDoorGrA
namespace Go.Proofs.YtdelidfigcgglaaDoor
open Go.RowKit

set_option maxRecDepth 100000 in
set_option maxHeartbeats 4000000 in
theorem lawCheckMac_main (master key data mac : List UInt8) (amaster akey adata amac : Option Addr) (cmaster ckey cdata cmac : Nat) (x0 x1 : Addr) (w : World) (hnmaster : master.length ≤ 1048576) (hnkey : key.length ≤ 1048576) (hndata : data.length ≤ 1048576) (hnmac : mac.length ≤ 1048576) (hs : Sents w x0 x1) (rmaster : RowAt w amaster master) (rkey : RowAt w akey key) (rdata : RowAt w adata data) (rmac : RowAt w amac mac) :
    Calls Tryd.prog 6 #[.slice amaster master.length cmaster, .slice akey key.length ckey, .slice adata data.length cdata, .slice amac mac.length cmac] w fun e w' => e = .returned (.bool true) ∧ Below w.heap.size w w' := by
  have HS := hide (fun (a1 a2 a3 a4 : Option Addr) (c1 c2 c3 c4 : Nat) (wx : World) (h2 : key.length ≤ c2) (h3 : data.length ≤ c3) (r1 : RowAt wx a1 master) (r2 : RowAt wx a2 key) (r3 : RowAt wx a3 data) (r4 : RowAt wx a4 mac) => checkMacS_any master key data mac a1 a2 a3 a4 c1 c2 c3 c4 wx hnmaster h2 h3 hndata r1 r2 r3 r4)
  have HI := hide (fun (a1 a2 a3 a4 : Option Addr) (c1 c2 c3 c4 : Nat) (wx : World) (h2 : key.length ≤ c2) (h3 : data.length ≤ c3) (hs : Sents wx x0 x1) (r1 : RowAt wx a1 master) (r2 : RowAt wx a2 key) (r3 : RowAt wx a3 data) (r4 : RowAt wx a4 mac) => checkMac_any master key data mac a1 a2 a3 a4 c1 c2 c3 c4 x0 x1 wx h2 h3 hndata hs r1 r2 r3 r4)
  obtain ⟨C, hC⟩ : ∃ C, C = chkC master key data mac := ⟨_, rfl⟩
  rw [← hC] at HS HI
  clear hC
  have HTmaster := hide (fun (wx : World) (h : RowAt wx amaster master) => toByteS_any amaster cmaster master wx hnmaster h)
  have HRmaster := hide rmaster
  have hn'master : ¬ ((1048576 : Int) < (master.length : Int)) := by omega
  have HTkey := hide (fun (wx : World) (h : RowAt wx akey key) => toByteS_any akey ckey key wx hnkey h)
  have HRkey := hide rkey
  have hn'key : ¬ ((1048576 : Int) < (key.length : Int)) := by omega
  have HTdata := hide (fun (wx : World) (h : RowAt wx adata data) => toByteS_any adata cdata data wx hndata h)
  have HRdata := hide rdata
  have hn'data : ¬ ((1048576 : Int) < (data.length : Int)) := by omega
  have HTmac := hide (fun (wx : World) (h : RowAt wx amac mac) => toByteS_any amac cmac mac wx hnmac h)
  have HRmac := hide rmac
  have hn'mac : ¬ ((1048576 : Int) < (mac.length : Int)) := by omega
  clear rmaster rkey rdata rmac
  go_enter Tryd.func6, Tryd.ntmps6
  have bz : Below w.heap.size w w := Below.refl _ _
  go_wp2_with fail
  refine (HTmaster.out w (HRmaster.out.below bz)).mono ?_
  rintro e v1 ⟨rfl, own1, bel1⟩
  obtain ⟨_, _, hv1, row1, -, -⟩ := own1.shape
  cases hv1
  clear own1
  have bz_1 := bz.trans (bel1.mono bz.size)
  have sn_1 := hs.below bel1
  clear bz hs bel1
  go_wp2_with fail
  refine (HTkey.out v1 (HRkey.out.below bz_1)).mono ?_
  rintro e v2 ⟨rfl, own2, bel2⟩
  obtain ⟨_, _, hv2, row2, -, -⟩ := own2.shape
  cases hv2
  clear own2
  have bz_2 := bz_1.trans (bel2.mono bz_1.size)
  have sn_2 := sn_1.below bel2
  have qmaster_2 := row1.below bel2
  clear bz_1 sn_1 row1 bel2
  go_wp2_with fail
  refine (HTdata.out v2 (HRdata.out.below bz_2)).mono ?_
  rintro e v3 ⟨rfl, own3, bel3⟩
  obtain ⟨_, _, hv3, row3, -, -⟩ := own3.shape
  cases hv3
  clear own3
  have bz_3 := bz_2.trans (bel3.mono bz_2.size)
  have sn_3 := sn_2.below bel3
  have qmaster_3 := qmaster_2.below bel3
  have qkey_3 := row2.below bel3
  clear bz_2 sn_2 qmaster_2 row2 bel3
  go_wp2_with fail
  refine (HTmac.out v3 (HRmac.out.below bz_3)).mono ?_
  rintro e v4 ⟨rfl, own4, bel4⟩
  obtain ⟨_, _, hv4, row4, -, -⟩ := own4.shape
  cases hv4
  clear own4
  have bz_4 := bz_3.trans (bel4.mono bz_3.size)
  have sn_4 := sn_3.below bel4
  have qmaster_4 := qmaster_3.below bel4
  have qkey_4 := qkey_3.below bel4
  have qdata_4 := row3.below bel4
  clear bz_3 sn_3 qmaster_3 qkey_3 row3 bel4
  go_wp2_with fail
  refine (HS.out (some ⟨w.heap.size, 0, none⟩) (some ⟨v1.heap.size, 0, none⟩) (some ⟨v2.heap.size, 0, none⟩) (some ⟨v3.heap.size, 0, none⟩) _ _ _ _ v4 (Nat.le_refl _) (Nat.le_refl _) qmaster_4 qkey_4 qdata_4 row4).mono ?_
  rintro e v5 ⟨rfl, bel5⟩
  have bz_5 := bz_4.trans (bel5.mono bz_4.size)
  have sn_5 := sn_4.below bel5
  have qmaster_5 := qmaster_4.below bel5
  have qkey_5 := qkey_4.below bel5
  have qdata_5 := qdata_4.below bel5
  have qmac_5 := row4.below bel5
  clear bz_4 sn_4 qmaster_4 qkey_4 qdata_4 row4 bel5
  clear qmaster_5
  clear qkey_5
  clear qdata_5
  clear qmac_5
  go_wp2_with fail
  refine (HTmaster.out v5 (HRmaster.out.below bz_5)).mono ?_
  rintro e v6 ⟨rfl, own6, bel6⟩
  obtain ⟨_, _, hv6, row6, -, -⟩ := own6.shape
  cases hv6
  clear own6
  have bz_6 := bz_5.trans (bel6.mono bz_5.size)
  have sn_6 := sn_5.below bel6
  clear bz_5 sn_5 bel6
  go_wp2_with fail
  refine (HTkey.out v6 (HRkey.out.below bz_6)).mono ?_
  rintro e v7 ⟨rfl, own7, bel7⟩
  obtain ⟨_, _, hv7, row7, -, -⟩ := own7.shape
  cases hv7
  clear own7
  have bz_7 := bz_6.trans (bel7.mono bz_6.size)
  have sn_7 := sn_6.below bel7
  have qmaster_7 := row6.below bel7
  clear bz_6 sn_6 row6 bel7
  go_wp2_with fail
  refine (HTdata.out v7 (HRdata.out.below bz_7)).mono ?_
  rintro e v8 ⟨rfl, own8, bel8⟩
  obtain ⟨_, _, hv8, row8, -, -⟩ := own8.shape
  cases hv8
  clear own8
  have bz_8 := bz_7.trans (bel8.mono bz_7.size)
  have sn_8 := sn_7.below bel8
  have qmaster_8 := qmaster_7.below bel8
  have qkey_8 := row7.below bel8
  clear bz_7 sn_7 qmaster_7 row7 bel8
  go_wp2_with fail
  refine (HTmac.out v8 (HRmac.out.below bz_8)).mono ?_
  rintro e v9 ⟨rfl, own9, bel9⟩
  obtain ⟨_, _, hv9, row9, -, -⟩ := own9.shape
  cases hv9
  clear own9
  have bz_9 := bz_8.trans (bel9.mono bz_8.size)
  have sn_9 := sn_8.below bel9
  have qmaster_9 := qmaster_8.below bel9
  have qkey_9 := qkey_8.below bel9
  have qdata_9 := row8.below bel9
  clear bz_8 sn_8 qmaster_8 qkey_8 row8 bel9
  go_wp2_with fail
  refine (HI.out (some ⟨v5.heap.size, 0, none⟩) (some ⟨v6.heap.size, 0, none⟩) (some ⟨v7.heap.size, 0, none⟩) (some ⟨v8.heap.size, 0, none⟩) _ _ _ _ v9 (Nat.le_refl _) (Nat.le_refl _) sn_9 qmaster_9 qkey_9 qdata_9 row9).mono ?_
  rintro e v10 ⟨rfl, bel10⟩
  have bz_10 := bz_9.trans (bel10.mono bz_9.size)
  have sn_10 := sn_9.below bel10
  have qmaster_10 := qmaster_9.below bel10
  have qkey_10 := qkey_9.below bel10
  have qdata_10 := qdata_9.below bel10
  have qmac_10 := row9.below bel10
  clear bz_9 sn_9 qmaster_9 qkey_9 qdata_9 row9 bel10
  clear sn_10
  go_wp2_with fail
  refine (HTmaster.out v10 (HRmaster.out.below bz_10)).mono ?_
  rintro e v11 ⟨rfl, own11, bel11⟩
  obtain ⟨_, _, hv11, row11, -, -⟩ := own11.shape
  cases hv11
  clear own11
  have bz_11 := bz_10.trans (bel11.mono bz_10.size)
  have qmaster_11 := qmaster_10.below bel11
  have qkey_11 := qkey_10.below bel11
  have qdata_11 := qdata_10.below bel11
  have qmac_11 := qmac_10.below bel11
  clear bz_10 qmaster_10 qkey_10 qdata_10 qmac_10 bel11
  go_wp2_with fail
  refine (eqByteS_any _ _ _ _ master v11 hnmaster qmaster_11 row11).mono ?_
  rintro e v11d ⟨rfl, m11, rfl⟩
  clear row11
  have bz_12 := below_drewN bz_11 m11
  have qmaster_12 : RowAt (v11.drewN m11) _ _ := qmaster_11
  have qkey_12 : RowAt (v11.drewN m11) _ _ := qkey_11
  have qdata_12 : RowAt (v11.drewN m11) _ _ := qdata_11
  have qmac_12 : RowAt (v11.drewN m11) _ _ := qmac_11
  clear bz_11 qmaster_11 qkey_11 qdata_11 qmac_11
  go_wp2_with fail
  refine (HTkey.out (v11.drewN m11) (HRkey.out.below bz_12)).mono ?_
  rintro e v12 ⟨rfl, own12, bel12⟩
  obtain ⟨_, _, hv12, row12, -, -⟩ := own12.shape
  cases hv12
  clear own12
  have bz_13 := bz_12.trans (bel12.mono bz_12.size)
  have qmaster_13 := qmaster_12.below bel12
  have qkey_13 := qkey_12.below bel12
  have qdata_13 := qdata_12.below bel12
  have qmac_13 := qmac_12.below bel12
  clear bz_12 qmaster_12 qkey_12 qdata_12 qmac_12 bel12
  go_wp2_with fail
  refine (eqByteS_any _ _ _ _ key v12 hnkey qkey_13 row12).mono ?_
  rintro e v12d ⟨rfl, m12, rfl⟩
  clear row12
  have bz_14 := below_drewN bz_13 m12
  have qmaster_14 : RowAt (v12.drewN m12) _ _ := qmaster_13
  have qkey_14 : RowAt (v12.drewN m12) _ _ := qkey_13
  have qdata_14 : RowAt (v12.drewN m12) _ _ := qdata_13
  have qmac_14 : RowAt (v12.drewN m12) _ _ := qmac_13
  clear bz_13 qmaster_13 qkey_13 qdata_13 qmac_13
  go_wp2_with fail
  refine (HTdata.out (v12.drewN m12) (HRdata.out.below bz_14)).mono ?_
  rintro e v13 ⟨rfl, own13, bel13⟩
  obtain ⟨_, _, hv13, row13, -, -⟩ := own13.shape
  cases hv13
  clear own13
  have bz_15 := bz_14.trans (bel13.mono bz_14.size)
  have qmaster_15 := qmaster_14.below bel13
  have qkey_15 := qkey_14.below bel13
  have qdata_15 := qdata_14.below bel13
  have qmac_15 := qmac_14.below bel13
  clear bz_14 qmaster_14 qkey_14 qdata_14 qmac_14 bel13
  go_wp2_with fail
  refine (eqByteS_any _ _ _ _ data v13 hndata qdata_15 row13).mono ?_
  rintro e v13d ⟨rfl, m13, rfl⟩
  clear row13
  have bz_16 := below_drewN bz_15 m13
  have qmaster_16 : RowAt (v13.drewN m13) _ _ := qmaster_15
  have qkey_16 : RowAt (v13.drewN m13) _ _ := qkey_15
  have qdata_16 : RowAt (v13.drewN m13) _ _ := qdata_15
  have qmac_16 : RowAt (v13.drewN m13) _ _ := qmac_15
  clear bz_15 qmaster_15 qkey_15 qdata_15 qmac_15
  go_wp2_with fail
  refine (HTmac.out (v13.drewN m13) (HRmac.out.below bz_16)).mono ?_
  rintro e v14 ⟨rfl, own14, bel14⟩
  obtain ⟨_, _, hv14, row14, -, -⟩ := own14.shape
  cases hv14
  clear own14
  have bz_17 := bz_16.trans (bel14.mono bz_16.size)
  have qmaster_17 := qmaster_16.below bel14
  have qkey_17 := qkey_16.below bel14
  have qdata_17 := qdata_16.below bel14
  have qmac_17 := qmac_16.below bel14
  clear bz_16 qmaster_16 qkey_16 qdata_16 qmac_16 bel14
  go_wp2_with fail
  refine (eqByteS_any _ _ _ _ mac v14 hnmac qmac_17 row14).mono ?_
  rintro e v14d ⟨rfl, m14, rfl⟩
  clear row14
  have bz_18 := below_drewN bz_17 m14
  have qmaster_18 : RowAt (v14.drewN m14) _ _ := qmaster_17
  have qkey_18 : RowAt (v14.drewN m14) _ _ := qkey_17
  have qdata_18 : RowAt (v14.drewN m14) _ _ := qdata_17
  have qmac_18 : RowAt (v14.drewN m14) _ _ := qmac_17
  clear bz_17 qmaster_17 qkey_17 qdata_17 qmac_17
  go_wp2_with fail
  go_ret
  exact ⟨rfl, bz_18⟩
set_option maxHeartbeats 1000000 in
theorem lawCheckMac (master key data mac : List UInt8) (amaster akey adata amac : Option Addr) (cmaster ckey cdata cmac : Nat) (x0 x1 : Addr) (w : World) (h1 : master.length ≤ maxLen) (h2 : key.length ≤ maxLen) (h3 : data.length ≤ maxLen) (h4 : mac.length ≤ maxLen) (hs : Sents w x0 x1) (rmaster : RowAt w amaster master) (rkey : RowAt w akey key) (rdata : RowAt w adata data) (rmac : RowAt w amac mac) :
    Calls Tryd.prog 6 #[.slice amaster master.length cmaster, .slice akey key.length ckey, .slice adata data.length cdata, .slice amac mac.length cmac] w fun e w' => e = .returned (.bool true) ∧ Below w.heap.size w w' := by
  unfold maxLen at h1 h2 h3 h4
  by_cases q1 : master.length ≤ 1048576
  · by_cases q2 : key.length ≤ 1048576
    · by_cases q3 : data.length ≤ 1048576
      · by_cases q4 : mac.length ≤ 1048576
        · exact lawCheckMac_main master key data mac amaster akey adata amac cmaster ckey cdata cmac x0 x1 w q1 q2 q3 q4 hs rmaster rkey rdata rmac
        · clear hs rmaster rkey rdata rmac
          go_enter Tryd.func6, Tryd.ntmps6
          go_wp2_with fail
          go_ret
          exact ⟨rfl, Below.refl _ _⟩
      · clear hs rmaster rkey rdata rmac
        go_enter Tryd.func6, Tryd.ntmps6
        go_wp2_with fail
        go_ret
        exact ⟨rfl, Below.refl _ _⟩
    · clear hs rmaster rkey rdata rmac
      go_enter Tryd.func6, Tryd.ntmps6
      go_wp2_with fail
      go_ret
      exact ⟨rfl, Below.refl _ _⟩
  · clear hs rmaster rkey rdata rmac
    go_enter Tryd.func6, Tryd.ntmps6
    go_wp2_with fail
    go_ret
    exact ⟨rfl, Below.refl _ _⟩
end Go.Proofs.YtdelidfigcgglaaDoor
