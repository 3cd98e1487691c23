import Derived.Test.YtoajfbkblpaejaaGreatDoorGrG
namespace Go.Proofs.YtoajfbkblpaejaaGreatDoor
open Go.RowKit
def halfC0:List UInt8:=[192,192,192,192,0,0,0,0]
set_option maxRecDepth 100000 in
set_option maxHeartbeats 1000000 in
theorem c0_any (w:World):Calls Tryz.prog 127 #[] w fun e w'=>∃ v,e = .returned v ∧ OwnB w' w.heap.size v serialL ∧ Below w.heap.size w w':=by
 obtain ⟨i0,hi,hz0,hz1,hz2⟩:=info_parts Tryz.info5
 have b1:Blk (w.alloc (.cells (halfC0.map byte).toArray 5)) w.heap.size 5 (halfC0.map byte):=Blk.new w _ _
 have o1:=(blk_own b1 (Nat.le_refl _) (by decide)).alloc (.cells (halfC0.map byte).toArray 5)
 have b2:Blk ((w.alloc (.cells (halfC0.map byte).toArray 5)).alloc (.cells (halfC0.map byte).toArray 5)) (w.heap.size + 1) 5 (halfC0.map byte):=Blk.new2 w _ _ _
 have bel:Below w.heap.size w ((w.alloc (.cells (halfC0.map byte).toArray 5)).alloc (.cells (halfC0.map byte).toArray 5)):=(below_new w _).alloc (by simp) _
 have hnews:∀ j u,(halfC0.map byte)[j]? = some u → ((w.alloc (.cells (halfC0.map byte).toArray 5)).alloc (.cells (halfC0.map byte).toArray 5)).cell? ((⟨w.heap.size + 1,0,none⟩:Addr).add j) = some u:=by
   intro j u hu
   rw [Addr.add_mid]
   exact blk_whole b2 j u hu
 have hone:∀ u ∈ halfC0.map byte,u.oneCell' = true:=by
   intro u hu
   obtain ⟨x,-,rfl⟩:=List.mem_map.1 hu
   rfl
 go_enter Tryz.func127,Tryz.ntmps127
 go_wp2_with (at_builtin;refine wpList_append_own _ rfl _ _ 22 rfl w.heap.size 5 i0 (.int .u8 0) 1 1 Tryz.underlying22 hi hz0 hz1 hz2 rfl (by decide) _ 8 (halfC0.map byte) rfl o1 ⟨w.heap.size + 1,0,none⟩ 8 8 (halfC0.map byte) rfl rfl hnews hone (by unfold maxLen;omega) (by omega) bel.size ?_;intro v1 w1 hown1 hgrow1 hnil1)
 go_ret
 exact ⟨_,rfl,hown1,bel.grown hgrow1 bel.size (fun j hj=>(o1.lt j hj).1)⟩
def clr (x:UInt8):UInt8:=UInt8.ofNat (x.toNat / 32 * 32)
theorem clr_nat:∀ n:Nat,n < 256 → bits BinOp.and IntKind.u8 (n:Int) 224 = ((n / 32 * 32:Nat):Int) ∧ bits BinOp.andNot IntKind.u8 (n:Int) 31 = ((n / 32 * 32:Nat):Int):=by decide +kernel
theorem low_nat:∀ n:Nat,n < 256 → bits BinOp.and IntKind.u8 (n:Int) 31 = ((n % 32:Nat):Int):=by decide +kernel
theorem byte_clr (x:UInt8):byte (clr x) = .int .u8 ((x.toNat / 32 * 32:Nat):Int):=by
 unfold byte clr
 rw [UInt8.toNat_ofNat']
 have:=x.toNat_lt
 congr 2
 omega
def countR (s:List UInt8):List UInt8:=s.take 7 ++ [clr (s.getD 7 0),0,0]
def countN (s:List UInt8):Nat:=(s.getD 7 0).toNat % 32 * 65536 + (s.getD 8 0).toNat * 256 + (s.getD 9 0).toNat
def serR (s:List UInt8):List UInt8:=s.take 7 ++ [clr (s.getD 7 0)]
theorem serR_length (s:List UInt8) (h:s.length = 10):(serR s).length = 8:=by simp [serR,h]
theorem countR_take (s:List UInt8) (h:s.length = 10):(countR s).take 8 = serR s:=by
 unfold countR serR
 rw [List.take_append,List.take_of_length_le (by simp;omega)]
 simp [h]
theorem i64_or_nat (a b:Nat) (ha:a < 4611686018427387904) (hb:b < 4611686018427387904):bits .or .i64 (a:Int) (b:Int) = ((a ||| b:Nat):Int):=by
 have hx:a ||| b < 2 ^ 62:=Nat.or_lt_two_pow (by omega) (by omega)
 show IntKind.i64.wrap ((BitVec.ofInt 64 (a:Int) ||| BitVec.ofInt 64 (b:Int)).toNat:Int) = _
 rw [BitVec.toNat_or,ofInt_u64 a (by omega),ofInt_u64 b (by omega),IntKind.wrap_i64]
 omega
theorem wrap_small (n:Nat) (h:n < 4294967296):IntKind.i64.wrap (n:Int) = (n:Int):=by rw [IntKind.wrap_i64];omega
theorem or_count (a b c:Nat) (ha:a < 32) (hb:b < 256) (hc:c < 256):bits BinOp.or IntKind.i64 (bits BinOp.or IntKind.i64 ((a * 65536:Nat):Int) ((b * 256:Nat):Int)) (c:Int) = ((a * 65536 + b * 256 + c:Nat):Int):=by
 rw [i64_or_nat _ _ (by omega) (by omega),nat_join 16 (a * 65536) _ (by omega) (by omega),i64_or_nat _ _ (by omega) (by omega),nat_join 8 (a * 65536 + b * 256) _ (by omega) (by omega)]
theorem count_val (s7 s8 s9:UInt8):bits BinOp.or IntKind.i64 (bits BinOp.or IntKind.i64 (IntKind.i64.wrap (IntKind.i64.wrap (bits BinOp.and IntKind.u8 (s7.toNat:Int) 31) * 65536)) (IntKind.i64.wrap (IntKind.i64.wrap (s8.toNat:Int) * 256))) (IntKind.i64.wrap (s9.toNat:Int)) = ((s7.toNat % 32 * 65536 + s8.toNat * 256 + s9.toNat:Nat):Int):=by
 have h7:=s7.toNat_lt
 have h8:=s8.toNat_lt
 have h9:=s9.toNat_lt
 have e1:((s7.toNat % 32:Nat):Int) * 65536 = ((s7.toNat % 32 * 65536:Nat):Int):=by omega
 have e2:(s8.toNat:Int) * 256 = ((s8.toNat * 256:Nat):Int):=by omega
 rw [low_nat _ h7,wrap_small _ (by omega),wrap_small s8.toNat (by omega),wrap_small s9.toNat (by omega),e1,e2,wrap_small _ (by omega),wrap_small _ (by omega),or_count _ _ _ (by omega:s7.toNat % 32 < 32) h8 h9]
set_option maxRecDepth 100000 in
set_option maxHeartbeats 2000000 in
theorem count_lit (s0 s1 s2 s3 s4 s5 s6 s7 s8 s9:UInt8) (b off cap:Nat) (w:World) (hr:∀ i,i < 10 → w.cell? ⟨b,off + i,none⟩ = some (.int .u8 (([s0,s1,s2,s3,s4,s5,s6,s7,s8,s9].getD i 0).toNat:Int))) :
   Calls Tryz.prog 90 #[.slice (some ⟨b,off,none⟩) 10 cap] w fun e w'=>e = .returned (.tuple #[.int .i64 ((s7.toNat % 32 * 65536 + s8.toNat * 256 + s9.toNat:Nat):Int),.slice (some ⟨w.heap.size,0,none⟩) 10 10]) ∧ Blk w' w.heap.size 5 ([s0,s1,s2,s3,s4,s5,s6,clr s7,0,0].map byte) ∧ Below w.heap.size w w':=by
 have c7:=hr 7 (by omega)
 have c8:=hr 8 (by omega)
 have c9:=hr 9 (by omega)
 simp only [List.getD_cons_succ,List.getD_cons_zero] at c7 c8 c9
 have hB:=bytes_some b off cap [s0,s1,s2,s3,s4,s5,s6,s7,s8,s9] w.drew (by simp) (by simp) hr
 simp only [List.length_cons,List.length_nil,Nat.zero_add,Nat.reduceAdd] at hB
 have HB:Hid (Calls Tryz.prog 89 #[.slice (some ⟨b,off,none⟩) 10 cap] w.drew fun e w'=>e = .returned (.slice (some ⟨w.heap.size,0,none⟩) 10 10) ∧ OwnB w' w.heap.size (.slice (some ⟨w.heap.size,0,none⟩) 10 10) [s0,s1,s2,s3,s4,s5,s6,s7,s8,s9] ∧ Below w.heap.size w.drew w'):=hB
 have hval:=count_val s7 s8 s9
 obtain ⟨N,hN⟩:∃ N:Nat,N = s7.toNat % 32 * 65536 + s8.toNat * 256 + s9.toNat:=⟨_,rfl⟩
 rw [← hN] at hval ⊢
 have HV:Hid (bits BinOp.or IntKind.i64 (bits BinOp.or IntKind.i64 (IntKind.i64.wrap (IntKind.i64.wrap (bits BinOp.and IntKind.u8 (s7.toNat:Int) 31) * 65536)) (IntKind.i64.wrap (IntKind.i64.wrap (s8.toNat:Int) * 256))) (IntKind.i64.wrap (s9.toNat:Int)) = (N:Int)):=hval
 clear hr hB hN hval
 go_enter Tryz.func90,Tryz.ntmps90
 go_wp2_with fail
 go_region_held3 (fun x=>x.cell? ⟨b,off + 7,none⟩ = some (.int .u8 (s7.toNat:Int)) ∧ x.cell? ⟨b,off + 8,none⟩ = some (.int .u8 (s8.toNat:Int)) ∧ x.cell? ⟨b,off + 9,none⟩ = some (.int .u8 (s9.toNat:Int))) (exact ⟨c7,c8,c9⟩) (fail)
 rw [HV.out]
 clear HV
 go_wp2_with fail
 refine HB.out.mono ?_
 rintro e w1 ⟨rfl,own1,bel1⟩
 have k1:Blk w1 w.heap.size 5 ([s0,s1,s2,s3,s4,s5,s6,s7,s8,s9].map byte):=own_blk own1
 have d1:w1.cell? ⟨w.heap.size,7,none⟩ = some (.int .u8 (s7.toNat:Int)):=k1.cell 7 (by simp)
 have d2:w1.cell? ⟨w.heap.size,8,none⟩ = some (.int .u8 (s8.toNat:Int)):=k1.cell 8 (by simp)
 have d3:w1.cell? ⟨w.heap.size,9,none⟩ = some (.int .u8 (s9.toNat:Int)):=k1.cell 9 (by simp)
 have f1:=k1.free 7
 have f2:=k1.free 8
 have f3:=k1.free 9
 have k4:=((k1.set 7 (byte (clr s7))).set 8 (.int .u8 0)).set 9 (.int .u8 0)
 have be:=(((below_drew bel1).setCell (p:=⟨w.heap.size,7,none⟩) (Nat.le_refl _) (byte (clr s7))).setCell (p:=⟨w.heap.size,8,none⟩) (Nat.le_refl _) (.int .u8 0)).setCell (p:=⟨w.heap.size,9,none⟩) (Nat.le_refl _) (.int .u8 0)
 have hls:((([s0,s1,s2,s3,s4,s5,s6,s7,s8,s9].map byte).set 7 (byte (clr s7))).set 8 (.int .u8 0)).set 9 (.int .u8 0) = [s0,s1,s2,s3,s4,s5,s6,clr s7,0,0].map byte:=rfl
 rw [hls] at k4
 rw [byte_clr] at k4 be
 have hcl:=(clr_nat s7.toNat s7.toNat_lt).1
 clear own1 bel1 k1 HB hls
 go_wp2
 go_ret2
 exact ⟨rfl,k4,be⟩
theorem ten (s:List UInt8) (h:s.length = 10):∃ s0 s1 s2 s3 s4 s5 s6 s7 s8 s9,s = [s0,s1,s2,s3,s4,s5,s6,s7,s8,s9]:=by
 match s,h with
 | [s0,s1,s2,s3,s4,s5,s6,s7,s8,s9],_=>exact ⟨s0,s1,s2,s3,s4,s5,s6,s7,s8,s9,rfl⟩
theorem count_any (s:List UInt8) (ao:Option Addr) (cap:Nat) (w:World) (h:s.length = 10) (hr:RowAt w ao s) :
   Calls Tryz.prog 90 #[.slice ao 10 cap] w fun e w'=>e = .returned (.tuple #[.int .i64 (countN s:Nat),.slice (some ⟨w.heap.size,0,none⟩) 10 10]) ∧ Blk w' w.heap.size 5 ((countR s).map byte) ∧ Below w.heap.size w w':=by
 obtain ⟨b,off,rfl,hc⟩:=hr.at (k:=0) (by omega)
 obtain ⟨s0,s1,s2,s3,s4,s5,s6,s7,s8,s9,rfl⟩:=ten s h
 exact count_lit s0 s1 s2 s3 s4 s5 s6 s7 s8 s9 b off cap w (fun i hi=>hc i hi)
section
variable {P:Program} {o:Oper} {a:Act} {w:World} {K:Act → World → Prop} {Q:Exit → Act → World → Prop}
theorem wp_append_to (d:Option Tmp) (hd:o.dst = d) (s x:Operand) (t:TypeId) (ho:o.op = .call { callee:=.builtin .append,args:=#[s,x],argTypes:=#[t,t] })
   (base:Nat) (e:TypeId) (i:TypeInfo) (z:Value) (size bytes:Nat) (ht:P.underlying t = some (.slice e)) (hi:P.info? e = some i) (hz:i.zero = some z)
   (hsize:i.size = size) (hby:i.bytes = bytes) (hzs:z.cells.size = size) (hsz:0 < size)
   (v:Value) (n:Nat) (xs:List Value) (hs:a.eval s = v) (hown:w.ownsRow base e size v n xs)
   (ad:Addr) (m c:Nat) (news:List Value) (hx:a.eval x = .slice (some ad) m c) (hl:news.length = m * size) (hnews:∀ j u,news[j]? = some u → w.cell? (ad.add j) = some u) (h1:∀ u ∈ news,u.oneCell' = true)
   (h63:n + m ≤ maxLen) (hbytes:(n + m) * bytes ≤ 140737488355328) (hbase:base ≤ w.heap.size)
   (h:∀ v' w',w'.ownsRow base e size v' (n + m) (xs ++ news) → w.grownBy w' v.ownBlock → (v' = .slice none 0 0 ↔ v = .slice none 0 0 ∧ m = 0) → K (a.put d v') w'):o.wp P a w K Q:=by
 subst hd
 exact wp_append_own w s x t ho base e i z size bytes ht hi hz hsize hby hzs hsz v n xs hs hown ad m c news hx hl hnews h1 h63 hbytes hbase h
end
theorem row_news {w:World} {g:Nat} {l:List UInt8} (h:RowAt w (some ⟨g,0,none⟩) l):∀ j u,(l.map byte)[j]? = some u → w.cell? ((⟨g,0,none⟩:Addr).add j) = some u:=by
 intro j u hu
 obtain ⟨hj,he⟩:=List.getElem?_eq_some_iff.1 hu
 rw [List.length_map] at hj
 obtain ⟨b',o',he2,hc2⟩:=h.at hj
 cases he2
 rw [Addr.add_mid,hc2 j hj,← he]
 simp [byte,hj]
theorem all_one (l:List UInt8):∀ u ∈ l.map byte,u.oneCell' = true:=by
 intro u hu
 obtain ⟨x,-,rfl⟩:=List.mem_map.1 hu
 rfl
theorem rowAt_take {w:World} {g t n:Nat} {l:List UInt8} (h:Blk w g t (l.map byte)):RowAt w (some ⟨g,0,none⟩) (l.take n):=by
 have hr:RowAt w (some ⟨g,0,none⟩) l:=rowAt_block h
 exact hr.take n
theorem hide {p:Prop} (h:p):Hid p:=h
def dinitL (bdk ksn:List UInt8):List UInt8:=tdeaN bdk (serR ksn) false ++ tdeaN (xorL bdk serialL) (serR ksn) false
theorem dinitL_length (bdk ksn:List UInt8):(dinitL bdk ksn).length = 16:=by unfold dinitL;rw [List.length_append,tdeaN_length,tdeaN_length]
set_option maxRecDepth 100000 in
set_option maxHeartbeats 2000000 in
theorem dinitS_ok (bdk ksn:List UInt8) (kb ko ck cs:Nat) (as_:Option Addr) (w:World) (hk:bdk.length = 16) (hs:ksn.length = 10) (hck:16 ≤ ck) (rk:RowAt w (some ⟨kb,ko,none⟩) bdk) (rs:RowAt w as_ ksn) :
   Calls Tryz.prog 125 #[.slice (some ⟨kb,ko,none⟩) 16 ck,.slice as_ 10 cs] w fun e w'=>∃ v,e = .returned v ∧ Own w' w.heap.size v (dinitL bdk ksn) ∧ Below w.heap.size w w':=by
 obtain ⟨i0,hi,hz0,hz1,hz2⟩:=info_parts Tryz.info5
 have hxl:(xorL bdk serialL).length = 16:=by rw [xorL_length _ _ (by rw [hk];rfl),hk]
 have HC:=count_any ksn as_ cs w hs rs
 have hRt:=countR_take ksn hs
 have hsl:=serR_length ksn hs
 have HT1:=fun (R:Nat) (wx:World) (h1:RowAt wx (some ⟨kb,ko,none⟩) bdk) (h2:RowAt wx (some ⟨R,0,none⟩) (serR ksn))=>tdea_spec_ok bdk (serR ksn) false (some ⟨kb,ko,none⟩) (some ⟨R,0,none⟩) ck 10 wx hk hsl (by omega) h1 h2
 have HT2:=fun (R g:Nat) (wx:World) (h1:RowAt wx (some ⟨g,0,none⟩) (xorL bdk serialL)) (h2:RowAt wx (some ⟨R,0,none⟩) (serR ksn))=>tdea_spec_ok (xorL bdk serialL) (serR ksn) false (some ⟨g,0,none⟩) (some ⟨R,0,none⟩) 16 10 wx hxl hsl (by omega) h1 h2
 have HX:=fun (g c:Nat) (wx:World) (h1:RowAt wx (some ⟨kb,ko,none⟩) bdk) (h2:RowAt wx (some ⟨g,0,none⟩) serialL)=>xor_any (some ⟨kb,ko,none⟩) (some ⟨g,0,none⟩) ck c bdk serialL wx (by omega) (by rw [hk];rfl) h1 h2
 rw [hk,hsl] at HT1
 rw [hxl,hsl] at HT2
 rw [hk,serialL_length] at HX
 have hAl:=tdeaN_length bdk (serR ksn) false
 have hBl:=tdeaN_length (xorL bdk serialL) (serR ksn) false
 show Calls Tryz.prog 125 #[.slice (some ⟨kb,ko,none⟩) 16 ck,.slice as_ 10 cs] w fun e w'=>∃ v,e = .returned v ∧ Own w' w.heap.size v (tdeaN bdk (serR ksn) false ++ tdeaN (xorL bdk serialL) (serR ksn) false) ∧ Below w.heap.size w w'
 obtain ⟨A,hA⟩:∃ A,A = tdeaN bdk (serR ksn) false:=⟨_,rfl⟩
 obtain ⟨B,hB⟩:∃ B,B = tdeaN (xorL bdk serialL) (serR ksn) false:=⟨_,rfl⟩
 rw [← hA] at HT1 hAl ⊢
 rw [← hB] at HT2 hBl ⊢
 clear hA hB
 obtain ⟨cn,hcn⟩:∃ cn,cn = countN ksn:=⟨_,rfl⟩
 rw [← hcn] at HC
 clear hcn
 go_enter Tryz.func125,Tryz.ntmps125
 go_wp2_with (first | (go_at_call 90;refine HC.mono ?_;rintro e w1 ⟨rfl,k1,bel1⟩))
 obtain ⟨R,hR⟩:∃ R,R = w.heap.size:=⟨_,rfl⟩
 rw [← hR] at k1 ⊢
 obtain ⟨V,hV⟩:∃ V,V = w1.drew:=⟨_,rfl⟩
 replace k1:Blk V R 5 ((countR ksn).map byte):=by rw [hV];exact k1.drew1
 have bV:Below w.heap.size w V:=by rw [hV];exact bel1.drew
 have hwV:=bV.size
 clear bel1 HC rs hR
 replace HT1:=hide (HT1 R)
 replace HT2:=hide (HT2 R)
 replace HX:=hide HX
 have b_0:Below V.heap.size V V:=Below.refl _ _
 have rowK:Hid (∀ {x},Below V.heap.size V x → RowAt x (some ⟨kb,ko,none⟩) bdk):=fun h=>(rk.below bV).below h
 have rowR:Hid (∀ {x},Below V.heap.size V x → RowAt x (some ⟨R,0,none⟩) (serR ksn)):=fun h=>by rw [← hRt];exact rowAt_take (k1.below h k1.lt)
 have keep:Hid (∀ {B x},Below B V x → True):=fun _=>trivial
 refine wp_region_held_drew (S:=fun _=>True) (by kernel_rfl) trivial (fun hHeld=>?_)
 rw [← hV]
 clear hV
 refine tk (i:=0) (v:=(.slice (some ⟨kb,ko,none⟩) 16 ck)) rfl (Or.inl ⟨by rfl,?_⟩) hHeld ?_
 · intro _ _;go_simp
 try dsimp only [Act.put]
 refine tk (i:=1) (v:=(.slice (some ⟨R,0,none⟩) 10 10)) rfl (Or.inl ⟨by rfl,?_⟩) hHeld ?_
 · intro _ _;go_simp
 try dsimp only [Act.put]
 refine tk (i:=2) (v:=(.slice (some ⟨R,0,none⟩) 8 10)) rfl (Or.inl ⟨by rfl,?_⟩) hHeld ?_
 · intro _ _;go_simp
 try dsimp only [Act.put]
 refine tk (i:=4) (v:=(.slice (some ⟨kb,ko,none⟩) 16 ck)) rfl (Or.inl ⟨by rfl,?_⟩) hHeld ?_
 · intro _ _;go_simp
 try dsimp only [Act.put]
 refine tk (i:=7) (v:=(.slice (some ⟨R,0,none⟩) 10 10)) rfl (Or.inl ⟨by rfl,?_⟩) hHeld ?_
 · intro _ _;go_simp
 try dsimp only [Act.put]
 refine tk (i:=8) (v:=(.slice (some ⟨R,0,none⟩) 8 10)) rfl (Or.inl ⟨by rfl,?_⟩) hHeld ?_
 · intro _ _;go_simp
 try dsimp only [Act.put]
 refine rdy1 3 (fun K hK=>?_)
 go_simp
 refine (HT1.out _ (rowK.out b_0) (rowR.out b_0)).mono ?_
 rintro e w_1 ⟨v_1,rfl,own_1,bel_1⟩
 have b_1:=below_step b_0 bel_1
 replace own_1:=own_1.mono (Nat.le_trans hwV b_0.size)
 go_wp2_with fail
 refine hK.out _ _ (keep.out b_1) (fun hHeld=>?_)
 clear hK K
 try dsimp only [Act.put]
 refine rdy1 5 (fun K hK=>?_)
 go_simp
 refine (c0_any _).mono ?_
 rintro e w_2 ⟨v_2,rfl,own_2,bel_2⟩
 have ownA_2:=own_1.below bel_2
 have b_2:=below_step b_1 bel_2
 obtain ⟨gc,cc,hcc,hvc,row_2⟩:=own_at own_2 serialL_length (by omega)
 subst hvc
 go_wp2_with fail
 refine hK.out _ _ (keep.out b_2) (fun hHeld=>?_)
 clear hK K
 try dsimp only [Act.put]
 refine rdy1 6 (fun K hK=>?_)
 go_simp
 refine (HX.out gc cc _ (rowK.out b_2) row_2).mono ?_
 rintro e w_3 ⟨rfl,own_3,bel_3⟩
 have ownA_3:=ownA_2.below bel_3
 have rowC_3:=row_2.below bel_3
 have b_3:=below_step b_2 bel_3
 have rowX_3:RowAt w_3 (some ⟨w_2.heap.size,0,none⟩) (xorL bdk serialL):=(by obtain ⟨g,c,-,hv,row⟩:=own_at own_3 hxl (by omega);cases hv;exact row)
 go_wp2_with fail
 refine hK.out _ _ (keep.out b_3) (fun hHeld=>?_)
 clear hK K
 try dsimp only [Act.put]
 refine rdy1 9 (fun K hK=>?_)
 go_simp
 refine (HT2.out _ _ rowX_3 (rowR.out b_3)).mono ?_
 rintro e w_4 ⟨v_4,rfl,own_4,bel_4⟩
 have ownA_4:=ownA_3.below bel_4
 have rowC_4:=rowC_3.below bel_4
 have rowX_4:=rowX_3.below bel_4
 have b_4:=below_step b_3 bel_4
 obtain ⟨gb,cb,hcb,hvb,rowB⟩:=own_at own_4 hBl (by omega)
 subst hvb
 go_wp2_with fail
 refine hK.out _ _ (keep.out b_4) (fun hHeld=>?_)
 clear hK K
 try dsimp only [Act.put]
 refine rdy1 10 (fun K hK=>?_)
 rw [if_pos (by rfl)]
 refine wp_append_to (some 30) rfl _ _ 22 rfl w.heap.size 5 i0 (.int .u8 0) 1 1 Tryz.underlying22 hi hz0 hz1 hz2 rfl (by decide) _ 8 (A.map byte) rfl (by have h:=ownA_4;unfold OwnB at h;rw [hAl] at h;exact h) ⟨gb,0,none⟩ 8 cb (B.map byte) rfl (by rw [List.length_map,hBl]) (row_news rowB) (all_one B) (by unfold maxLen;omega) (by omega) (Nat.le_trans hwV b_4.size) ?_
 rintro v_5 w_5 own_5 gr_5 -
 have bq:Below w.heap.size V w_5:=(b_4.mono hwV).grown gr_5 (Nat.le_trans hwV b_4.size) (fun j hj=>(ownA_4.lt j hj).1)
 refine hK.out _ _ (keep.out bq) (fun hHeld=>?_)
 clear hK K
 try dsimp only [Act.put]
 refine rdy1 11 (fun K hK=>?_)
 go_simp
 refine hK.out _ _ (keep.out bq) (fun hHeld=>?_)
 clear hK K
 try dsimp only [Act.put]
 refine wpAnyH_done (by kernel_rfl) ?_ _
 go_wp2_with fail
 go_ret
 refine ⟨_,rfl,?_,bV.trans bq⟩
 have h:=own_5
 refine ⟨5,?_⟩
 rw [List.map_append,List.length_append,hAl,hBl]
 exact h
theorem range_take {w:World} {b o n:Nat} {l:List UInt8} (h:w.rangeAt b o (l.map byte)):w.rangeAt b o ((l.take n).map byte):=by
 intro j v hv
 rw [List.map_take,List.getElem?_take] at hv
 split at hv
 · exact h j v hv
 · cases hv
theorem take_seven (s:List UInt8) (h:s.length = 10):((s.take 8).map byte).set 7 (byte (clr (s.getD 7 0))) = (serR s).map byte:=by
 obtain ⟨s0,s1,s2,s3,s4,s5,s6,s7,s8,s9,rfl⟩:=ten s h
 rfl
theorem take_eight (s:List UInt8) (h:s.length = 10):((s.take 8).map byte)[7]? = some (.int .u8 ((s.getD 7 0).toNat:Int)):=by
 obtain ⟨s0,s1,s2,s3,s4,s5,s6,s7,s8,s9,rfl⟩:=ten s h
 rfl
set_option maxRecDepth 100000 in
set_option maxHeartbeats 4000000 in
theorem dinit_ok (bdk ksn:List UInt8) (kb ko sb so ck cs:Nat) (w:World) (hk:bdk.length = 16) (hs:ksn.length = 10) (hcs:10 ≤ cs) (rk:w.rangeAt kb ko (bdk.map byte)) (rs:w.rangeAt sb so (ksn.map byte)) :
   Calls Tryz.prog 135 #[.slice (some ⟨kb,ko,none⟩) 16 ck,.slice (some ⟨sb,so,none⟩) 10 cs] w fun e w'=>∃ v,e = .returned v ∧ Own w' w.heap.size v (dinitL bdk ksn) ∧ Below w.heap.size w w':=by
 have hz:=(zero_of_info Tryz.zero79).1
 have har:=fun (wx:World)=>run_arrayAt (P:=Tryz.prog) (w:=wx) 67 5 16 (some ⟨kb,ko,none⟩) 16 ck Tryz.underlying67 (Nat.le_refl _)
 have har2:=fun (wx:World)=>run_arrayAt (P:=Tryz.prog) (w:=wx) 79 5 8 (some ⟨sb,so,none⟩) 8 cs Tryz.underlying79 (Nat.le_refl _)
 have hcI:(8:Int) ≤ (cs:Int):=by omega
 have hkl:(bdk.map byte).length = 16:=by rw [List.length_map,hk]
 have hrl:=serR_length ksn hs
 have rs8:=range_take (n:=8) rs
 have h8l:((ksn.take 8).map byte).length = 8:=by rw [List.length_map,List.length_take,hs];rfl
 have hset:=take_seven ksn hs
 have hat:=take_eight ksn hs
 obtain ⟨T8,hT8⟩:∃ T,T = (ksn.take 8).map byte:=⟨_,rfl⟩
 obtain ⟨x7,hx7⟩:∃ x,x = ksn.getD 7 0:=⟨_,rfl⟩
 have hone8:=allOne_bytes (ksn.take 8)
 rw [← hT8] at rs8 h8l hset hat hone8
 rw [← hx7] at hset hat
 clear hT8 hx7 rs
 show Calls Tryz.prog 135 #[.slice (some ⟨kb,ko,none⟩) 16 ck,.slice (some ⟨sb,so,none⟩) 10 cs] w fun e w'=>∃ v,e = .returned v ∧ Own w' w.heap.size v (tdeaN bdk (serR ksn) false ++ tdeaN (xorL bdk serialL) (serR ksn) false) ∧ Below w.heap.size w w'
 have HE1:=fun S wx=>tdea_encrypt (bdk.take 8) (bdk.drop 8) (serR ksn) S wx hrl
 have HE2:=fun S wx=>tdea_encrypt ((xorL bdk serialL).take 8) ((xorL bdk serialL).drop 8) (serR ksn) S wx hrl
 rw [← tdeaN_enc bdk (serR ksn)] at HE1
 rw [← tdeaN_enc (xorL bdk serialL) (serR ksn)] at HE2
 have hA8:=tdeaN_length bdk (serR ksn) false
 have hB8:=tdeaN_length (xorL bdk serialL) (serR ksn) false
 have HM:=serialMask_any
 have hml:=serialL_length
 have hXl:(xorL bdk serialL).length = 16:=by rw [xorL_length _ _ (by rw [hk];rfl),hk]
 have HX2:=fun (g:Nat) (wx:World) (h:Blk wx g 67 (bdk.map byte ++ serialL.map byte))=>xor16_two bdk serialL g 2 67 wx hk serialL_length h
 obtain ⟨A,hA⟩:∃ A,A = tdeaN bdk (serR ksn) false:=⟨_,rfl⟩
 obtain ⟨B,hB⟩:∃ B,B = tdeaN (xorL bdk serialL) (serR ksn) false:=⟨_,rfl⟩
 rw [← hA] at HE1 hA8 ⊢
 rw [← hB] at HE2 hB8 ⊢
 clear hA hB
 obtain ⟨X,hX⟩:∃ X,X = xorL bdk serialL:=⟨_,rfl⟩
 rw [← hX] at HE2 HX2 hXl
 obtain ⟨mm,hmm0⟩:∃ m,m = serialL:=⟨_,rfl⟩
 rw [← hmm0] at HM hml HX2
 obtain ⟨r,hr⟩:∃ r,r = serR ksn:=⟨_,rfl⟩
 rw [← hr] at HE1 HE2 hrl hset
 clear hX hmm0 hr
 replace HE1:=hide HE1
 replace HE2:=hide HE2
 replace HM:=hide HM
 replace HX2:=hide HX2
 have hmm:(mm.map byte).length = 16:=by rw [List.length_map,hml]
 have hrm:(r.map byte).length = 8:=by rw [List.length_map,hrl]
 have hAm:(A.map byte).length = 8:=by rw [List.length_map,hA8]
 have hBm:(B.map byte).length = 8:=by rw [List.length_map,hB8]
 have hfa:[A,B].flatten = A ++ B:=by simp
 have hfl:[A,B].flatten.length ≤ 1048576:=by rw [hfa,List.length_append,hA8,hB8];omega
 have hcl:=(clr_nat x7.toNat x7.toNat_lt).2
 rw [byte_clr] at hset
 obtain ⟨y,hy⟩:∃ y:Nat,y = x7.toNat / 32 * 32:=⟨_,rfl⟩
 rw [← hy] at hcl hset
 clear hy
 go_enter Tryz.func135,Tryz.ntmps135
 go_wp2_with (first
   | (refine wpList_load_mid rfl 79 _ rfl sb so rfl T8 _ rs8 Tryz.underlying79 rfl (by rw [h8l];kernel_rfl) ?_)
   | (refine store_blk rfl 79 _ _ rfl _ rfl rfl (Blk.new w _ _) (by rw [h8l];kernel_rfl) (by rw [h8l];exact zerosOf_length _ _) hone8 ?_;intro w3 hb3 hg3 hs3;have c7:w3.cell? ⟨w.heap.size,7,none⟩ = some (.int .u8 (x7.toNat:Int)):=(blk_whole hb3 7 _ hat);have f7:=hb3.free 7;have b3:=(below_new w _).grown hg3 (by simp) (by intro k hk;cases hk;exact Nat.le_refl _)))
 have k1:=hb3.set 7 (.int .u8 (y:Int))
 rw [hset] at k1
 have bW:=b3.setCell (p:=⟨w.heap.size,7,none⟩) (Nat.le_refl _) (.int .u8 (y:Int))
 obtain ⟨W,hW⟩:∃ W,W = w3.setCell ⟨w.heap.size,7,none⟩ (.int .u8 (y:Int)):=⟨_,rfl⟩
 rw [← hW] at k1 bW ⊢
 clear hW hset hat hb3 hg3 hs3 c7 f7 b3 rs8 hone8 hcl har2
 go_cut [6] (fun p wx=>∃ G,p = .pointer (some ⟨G,0,none⟩) ∧ w.heap.size < G ∧ Blk wx G 79 (A.map byte) ∧ Blk wx w.heap.size 79 (r.map byte) ∧ Below w.heap.size w wx)
 case first =>
   obtain ⟨V,hV⟩:∃ V,V = W.drew:=⟨_,rfl⟩
   replace k1:Blk V w.heap.size 79 (r.map byte):=by rw [hV];exact k1.drew1
   have bV:Below w.heap.size w V:=by rw [hV];exact bW.drew
   have hwV:=bV.size
   have lV:=k1.lt
   clear bW
   have b_0:Below V.heap.size V V:=Below.refl _ _
   have blk_keep:Hid (∀ {x},Below V.heap.size V x → Blk x w.heap.size 79 (r.map byte)):=fun h=>k1.below h k1.lt
   have keep:Hid (∀ {x},Below V.heap.size V x → x.rangeAt kb ko (bdk.map byte) ∧ x.rangeAt w.heap.size 0 (r.map byte)):=fun h=>⟨range_below (range_below rk bV) h,blk_whole (blk_keep.out h)⟩
   refine wp_region_held_drew (S:=fun x=>x.rangeAt kb ko (bdk.map byte) ∧ x.rangeAt w.heap.size 0 (r.map byte)) (by kernel_rfl) (by rw [← hV];exact keep.out b_0) (fun hHeld=>?_)
   rw [← hV] at hHeld ⊢
   clear hV
   refine tk (i:=0) (v:=(.slice (some ⟨kb,ko,none⟩) 16 ck)) rfl (Or.inl ⟨by rfl,?_⟩) hHeld ?_
   · intro _ _;go_simp
   try dsimp only [Act.put]
   refine tk (i:=1) (v:=(.pointer (some ⟨kb,ko,none⟩))) rfl (Or.inl ⟨by rfl,?_⟩) hHeld ?_
   · intro _ _;go_simp
   try dsimp only [Act.put]
   refine tk (i:=2) (v:=(.agg (bdk.map byte).toArray)) rfl (yieldsIf_load_mid (by rfl) 67 _ rfl kb ko rfl (bdk.map byte) _ (fun _ h=>h.1) Tryz.underlying67 rfl (by rw [hkl];kernel_rfl)) hHeld ?_
   try dsimp only [Act.put]
   refine tk (i:=4) (v:=(.agg (r.map byte).toArray)) rfl (yieldsIf_load_mid (by rfl) 79 _ rfl w.heap.size 0 rfl (r.map byte) _ (fun _ h=>h.2) Tryz.underlying79 rfl (by rw [hrm];kernel_rfl)) hHeld ?_
   try dsimp only [Act.put]
   refine wpAnyH_ready (rs:=[3,6]) (by kernel_rfl) (by simp) ?_
   refine AllReadyH.cons rfl (fun K hK=>?_) (AllReadyH.cons rfl (fun K hK=>?_) (AllReadyH.nil))
   · go_simp
     refine (newTdea_any bdk _ hk).mono ?_
     rintro e w_1 ⟨S_1,rfl,-,hS_1,bel_1⟩
     have b_1:=below_step b_0 bel_1
     go_wp2_with fail
     refine hK.out _ _ (keep.out b_1) (fun hHeld=>?_)
     clear hK K
     try dsimp only [Act.put]
     refine wpAnyH_ready (rs:=[5,6]) (by kernel_rfl) (by simp) ?_
     refine AllReadyH.cons rfl (fun K hK=>?_) (AllReadyH.cons rfl (fun K hK=>?_) (AllReadyH.nil))
     · go_simp
       refine (HE1.out S_1 _ hS_1).mono ?_
       rintro e w_2 ⟨rfl,bel_2⟩
       have box_2:=hS_1.below bel_2 hS_1.lt
       have b_2:=below_step b_1 bel_2
       go_wp2_with fail
       refine hK.out _ _ (keep.out b_2) (fun hHeld=>?_)
       clear hK K
       try dsimp only [Act.put]
       refine rdy1 6 (fun K hK=>?_)
       go_simp
       obtain ⟨w_3,hw_3⟩:∃ x,x = World.alloc w_2 (.cells (zerosOf 8 .u8).toArray 79):=⟨_,rfl⟩
       have bel_3:Below w_2.heap.size w_2 w_3:=by rw [hw_3];exact below_new _ _
       have G_3:Blk w_3 w_2.heap.size 79 (zerosOf 8 .u8):=by rw [hw_3];exact Blk.new _ _ _
       have le_G_3:=b_2.size
       have box_3:=box_2.below bel_3 box_2.lt
       have b_3:=below_step b_2 bel_3
       rw [← hw_3]
       clear hw_3
       refine hK.out _ _ (keep.out b_3) (fun hHeld=>?_)
       clear hK K
       try dsimp only [Act.put]
       refine rdy1 7 (fun K hK=>?_)
       rw [if_pos (by rfl)]
       refine wp_store_blk rfl 79 _ _ rfl w_2.heap.size rfl rfl G_3 (by rw [hAm];kernel_rfl) (by rw [hAm];exact zerosOf_length _ _) (allOne_bytes _) ?_
       have G_4:=Blk.setRow G_3 (A.map byte)
       have b_4:=below_setRow' (g:=w_2.heap.size) b_3 le_G_3 (A.map byte).toArray
       refine hK.out _ _ (keep.out b_4) (fun hHeld=>?_)
       clear hK K
       try dsimp only [Act.put]
       refine wpAnyH_done (by kernel_rfl) ?_ _
       go_wp2_with fail
       go_meet
       case rel=>exact ⟨_,rfl,by omega,G_4,blk_keep.out b_4,bV.trans (b_4.mono hwV)⟩
     · go_simp
       obtain ⟨w_5,hw_5⟩:∃ x,x = World.alloc w_1 (.cells (zerosOf 8 .u8).toArray 79):=⟨_,rfl⟩
       have bel_5:Below w_1.heap.size w_1 w_5:=by rw [hw_5];exact below_new _ _
       have G_5:Blk w_5 w_1.heap.size 79 (zerosOf 8 .u8):=by rw [hw_5];exact Blk.new _ _ _
       have le_G_5:=b_1.size
       have box_5:=hS_1.below bel_5 hS_1.lt
       have b_5:=below_step b_1 bel_5
       rw [← hw_5]
       clear hw_5
       refine hK.out _ _ (keep.out b_5) (fun hHeld=>?_)
       clear hK K
       try dsimp only [Act.put]
       refine rdy1 5 (fun K hK=>?_)
       go_simp
       refine (HE1.out S_1 _ box_5).mono ?_
       rintro e w_6 ⟨rfl,bel_6⟩
       have box_6:=box_5.below bel_6 box_5.lt
       have G_6:=G_5.below bel_6 G_5.lt
       have b_6:=below_step b_5 bel_6
       go_wp2_with fail
       refine hK.out _ _ (keep.out b_6) (fun hHeld=>?_)
       clear hK K
       try dsimp only [Act.put]
       refine rdy1 7 (fun K hK=>?_)
       rw [if_pos (by rfl)]
       refine wp_store_blk rfl 79 _ _ rfl w_1.heap.size rfl rfl G_6 (by rw [hAm];kernel_rfl) (by rw [hAm];exact zerosOf_length _ _) (allOne_bytes _) ?_
       have G_7:=Blk.setRow G_6 (A.map byte)
       have b_7:=below_setRow' (g:=w_1.heap.size) b_6 le_G_5 (A.map byte).toArray
       refine hK.out _ _ (keep.out b_7) (fun hHeld=>?_)
       clear hK K
       try dsimp only [Act.put]
       refine wpAnyH_done (by kernel_rfl) ?_ _
       go_wp2_with fail
       go_meet
       case rel=>exact ⟨_,rfl,by omega,G_7,blk_keep.out b_7,bV.trans (b_7.mono hwV)⟩
   · go_simp
     obtain ⟨w_8,hw_8⟩:∃ x,x = World.alloc V (.cells (zerosOf 8 .u8).toArray 79):=⟨_,rfl⟩
     have bel_8:Below V.heap.size V w_8:=by rw [hw_8];exact below_new _ _
     have G_8:Blk w_8 V.heap.size 79 (zerosOf 8 .u8):=by rw [hw_8];exact Blk.new _ _ _
     have le_G_8:=b_0.size
     have b_8:=below_step b_0 bel_8
     rw [← hw_8]
     clear hw_8
     refine hK.out _ _ (keep.out b_8) (fun hHeld=>?_)
     clear hK K
     try dsimp only [Act.put]
     refine rdy1 3 (fun K hK=>?_)
     go_simp
     refine (newTdea_any bdk _ hk).mono ?_
     rintro e w_9 ⟨S_9,rfl,-,hS_9,bel_9⟩
     have G_9:=G_8.below bel_9 G_8.lt
     have b_9:=below_step b_8 bel_9
     go_wp2_with fail
     refine hK.out _ _ (keep.out b_9) (fun hHeld=>?_)
     clear hK K
     try dsimp only [Act.put]
     refine rdy1 5 (fun K hK=>?_)
     go_simp
     refine (HE1.out S_9 _ hS_9).mono ?_
     rintro e w_10 ⟨rfl,bel_10⟩
     have G_10:=G_9.below bel_10 G_9.lt
     have box_10:=hS_9.below bel_10 hS_9.lt
     have b_10:=below_step b_9 bel_10
     go_wp2_with fail
     refine hK.out _ _ (keep.out b_10) (fun hHeld=>?_)
     clear hK K
     try dsimp only [Act.put]
     refine rdy1 7 (fun K hK=>?_)
     rw [if_pos (by rfl)]
     refine wp_store_blk rfl 79 _ _ rfl V.heap.size rfl rfl G_10 (by rw [hAm];kernel_rfl) (by rw [hAm];exact zerosOf_length _ _) (allOne_bytes _) ?_
     have G_11:=Blk.setRow G_10 (A.map byte)
     have b_11:=below_setRow' (g:=V.heap.size) b_10 le_G_8 (A.map byte).toArray
     refine hK.out _ _ (keep.out b_11) (fun hHeld=>?_)
     clear hK K
     try dsimp only [Act.put]
     refine wpAnyH_done (by kernel_rfl) ?_ _
     go_wp2_with fail
     go_meet
     case rel=>exact ⟨_,rfl,by omega,G_11,blk_keep.out b_11,bV.trans (b_11.mono hwV)⟩
 case rest =>
   clear k1 bW W
   obtain ⟨G1,rfl,hG1,kG1,k1,bW⟩:=hcut
   go_wp2_with fail
   go_cut [7] (fun p wx=>∃ G,p = .pointer (some ⟨G,0,none⟩) ∧ w.heap.size < G ∧ Blk wx G 79 (B.map byte) ∧ Blk wx G1 79 (A.map byte) ∧ Below w.heap.size w wx)
   case first =>
     obtain ⟨V,hV⟩:∃ V,V = wc.drew:=⟨_,rfl⟩
     replace k1:Blk V w.heap.size 79 (r.map byte):=by rw [hV];exact k1.drew1
     replace kG1:Blk V G1 79 (A.map byte):=by rw [hV];exact kG1.drew1
     have bV:Below w.heap.size w V:=by rw [hV];exact bW.drew
     have hwV:=bV.size
     have lV:=k1.lt
     clear bW
     have hz16:=(zero_of_info Tryz.zero67).1
     have b_0:Below V.heap.size V V:=Below.refl _ _
     have gl_keep:Hid (∀ {x},Below V.heap.size V x → Blk x G1 79 (A.map byte)):=fun h=>kG1.below h kG1.lt
     have keep:Hid (∀ {x},Below V.heap.size V x → x.rangeAt kb ko (bdk.map byte) ∧ x.rangeAt w.heap.size 0 (r.map byte)):=fun h=>⟨range_below (range_below rk bV) h,blk_whole (k1.below h k1.lt)⟩
     refine wp_region_held_drew (S:=fun x=>x.rangeAt kb ko (bdk.map byte) ∧ x.rangeAt w.heap.size 0 (r.map byte)) (by kernel_rfl) (by rw [← hV];exact keep.out b_0) (fun hHeld=>?_)
     rw [← hV] at hHeld ⊢
     clear hV
     refine tk (i:=0) (v:=(.slice (some ⟨kb,ko,none⟩) 16 ck)) rfl (Or.inl ⟨by rfl,?_⟩) hHeld ?_
     · intro _ _;go_simp
     try dsimp only [Act.put]
     refine tk (i:=1) (v:=(.pointer (some ⟨kb,ko,none⟩))) rfl (Or.inl ⟨by rfl,?_⟩) hHeld ?_
     · intro _ _;go_simp
     try dsimp only [Act.put]
     refine tk (i:=2) (v:=(.agg (bdk.map byte).toArray)) rfl (yieldsIf_load_mid (by rfl) 67 _ rfl kb ko rfl (bdk.map byte) _ (fun _ h=>h.1) Tryz.underlying67 rfl (by rw [hkl];kernel_rfl)) hHeld ?_
     try dsimp only [Act.put]
     refine tk (i:=7) (v:=(.agg (r.map byte).toArray)) rfl (yieldsIf_load_mid (by rfl) 79 _ rfl w.heap.size 0 rfl (r.map byte) _ (fun _ h=>h.2) Tryz.underlying79 rfl (by rw [hrm];kernel_rfl)) hHeld ?_
     try dsimp only [Act.put]
     refine wpAnyH_ready (rs:=[3,9]) (by kernel_rfl) (by simp) ?_
     refine AllReadyH.cons rfl (fun K hK=>?_) (AllReadyH.cons rfl (fun K hK=>?_) (AllReadyH.nil))
     · go_simp
       refine (HM.out _).mono ?_
       rintro e w_1 ⟨rfl,bel_1⟩
       have b_1:=below_step b_0 bel_1
       go_wp2_with fail
       refine hK.out _ _ (keep.out b_1) (fun hHeld=>?_)
       clear hK K
       try dsimp only [Act.put]
       refine wpAnyH_ready (rs:=[4,9]) (by kernel_rfl) (by simp) ?_
       refine AllReadyH.cons rfl (fun K hK=>?_) (AllReadyH.cons rfl (fun K hK=>?_) (AllReadyH.nil))
       · rw [if_pos (by rfl)]
         refine wp_build2 (some 34) rfl 140 _ _ rfl 67 16 _ (bdk.map byte) (mm.map byte) rfl rfl Tryz.underlying140 Tryz.zero67 hkl hmm (by omega) (by omega) ?_
         try dsimp only [Act.put]
         obtain ⟨w_2,hw_2⟩:∃ x,x = World.alloc w_1 (.cells (bdk.map byte ++ mm.map byte).toArray 67):=⟨_,rfl⟩
         have bel_2:Below w_1.heap.size w_1 w_2:=by rw [hw_2];exact below_new _ _
         have bs_2:Blk w_2 w_1.heap.size 67 (bdk.map byte ++ mm.map byte):=by rw [hw_2];exact Blk.new _ _ _
         have le_bs_2:=b_1.size
         have b_2:=below_step b_1 bel_2
         rw [← hw_2]
         clear hw_2
         refine hK.out _ _ (keep.out b_2) (fun hHeld=>?_)
         clear hK K
         try dsimp only [Act.put]
         refine wpAnyH_ready (rs:=[5,9]) (by kernel_rfl) (by simp) ?_
         refine AllReadyH.cons rfl (fun K hK=>?_) (AllReadyH.cons rfl (fun K hK=>?_) (AllReadyH.nil))
         · go_simp
           refine (HX2.out w_1.heap.size _ bs_2).mono ?_
           rintro e w_3 ⟨rfl,bel_3⟩
           have bs_3:=bs_2.below bel_3 bs_2.lt
           have b_3:=below_step b_2 bel_3
           go_wp2_with fail
           refine hK.out _ _ (keep.out b_3) (fun hHeld=>?_)
           clear hK K
           try dsimp only [Act.put]
           refine wpAnyH_ready (rs:=[6,9]) (by kernel_rfl) (by simp) ?_
           refine AllReadyH.cons rfl (fun K hK=>?_) (AllReadyH.cons rfl (fun K hK=>?_) (AllReadyH.nil))
           · go_simp
             refine (newTdea_any X _ hXl).mono ?_
             rintro e w_4 ⟨S_4,rfl,-,hS_4,bel_4⟩
             have bs_4:=bs_3.below bel_4 bs_3.lt
             have b_4:=below_step b_3 bel_4
             go_wp2_with fail
             refine hK.out _ _ (keep.out b_4) (fun hHeld=>?_)
             clear hK K
             try dsimp only [Act.put]
             refine wpAnyH_ready (rs:=[8,9]) (by kernel_rfl) (by simp) ?_
             refine AllReadyH.cons rfl (fun K hK=>?_) (AllReadyH.cons rfl (fun K hK=>?_) (AllReadyH.nil))
             · go_simp
               refine (HE2.out S_4 _ hS_4).mono ?_
               rintro e w_5 ⟨rfl,bel_5⟩
               have bs_5:=bs_4.below bel_5 bs_4.lt
               have box_5:=hS_4.below bel_5 hS_4.lt
               have b_5:=below_step b_4 bel_5
               go_wp2_with fail
               refine hK.out _ _ (keep.out b_5) (fun hHeld=>?_)
               clear hK K
               try dsimp only [Act.put]
               refine rdy1 9 (fun K hK=>?_)
               go_simp
               obtain ⟨w_6,hw_6⟩:∃ x,x = World.alloc w_5 (.cells (zerosOf 8 .u8).toArray 79):=⟨_,rfl⟩
               have bel_6:Below w_5.heap.size w_5 w_6:=by rw [hw_6];exact below_new _ _
               have G_6:Blk w_6 w_5.heap.size 79 (zerosOf 8 .u8):=by rw [hw_6];exact Blk.new _ _ _
               have le_G_6:=b_5.size
               have bs_6:=bs_5.below bel_6 bs_5.lt
               have box_6:=box_5.below bel_6 box_5.lt
               have b_6:=below_step b_5 bel_6
               rw [← hw_6]
               clear hw_6
               refine hK.out _ _ (keep.out b_6) (fun hHeld=>?_)
               clear hK K
               try dsimp only [Act.put]
               refine rdy1 10 (fun K hK=>?_)
               rw [if_pos (by rfl)]
               refine wp_store_blk rfl 79 _ _ rfl w_5.heap.size rfl rfl G_6 (by rw [hBm];kernel_rfl) (by rw [hBm];exact zerosOf_length _ _) (allOne_bytes _) ?_
               have G_7:=Blk.setRow G_6 (B.map byte)
               have b_7:=below_setRow' (g:=w_5.heap.size) b_6 le_G_6 (B.map byte).toArray
               refine hK.out _ _ (keep.out b_7) (fun hHeld=>?_)
               clear hK K
               try dsimp only [Act.put]
               refine wpAnyH_done (by kernel_rfl) ?_ _
               go_wp2_with fail
               go_meet
               case rel=>exact ⟨_,rfl,by omega,G_7,gl_keep.out b_7,bV.trans (b_7.mono hwV)⟩
             · go_simp
               obtain ⟨w_8,hw_8⟩:∃ x,x = World.alloc w_4 (.cells (zerosOf 8 .u8).toArray 79):=⟨_,rfl⟩
               have bel_8:Below w_4.heap.size w_4 w_8:=by rw [hw_8];exact below_new _ _
               have G_8:Blk w_8 w_4.heap.size 79 (zerosOf 8 .u8):=by rw [hw_8];exact Blk.new _ _ _
               have le_G_8:=b_4.size
               have bs_8:=bs_4.below bel_8 bs_4.lt
               have box_8:=hS_4.below bel_8 hS_4.lt
               have b_8:=below_step b_4 bel_8
               rw [← hw_8]
               clear hw_8
               refine hK.out _ _ (keep.out b_8) (fun hHeld=>?_)
               clear hK K
               try dsimp only [Act.put]
               refine rdy1 8 (fun K hK=>?_)
               go_simp
               refine (HE2.out S_4 _ box_8).mono ?_
               rintro e w_9 ⟨rfl,bel_9⟩
               have bs_9:=bs_8.below bel_9 bs_8.lt
               have box_9:=box_8.below bel_9 box_8.lt
               have G_9:=G_8.below bel_9 G_8.lt
               have b_9:=below_step b_8 bel_9
               go_wp2_with fail
               refine hK.out _ _ (keep.out b_9) (fun hHeld=>?_)
               clear hK K
               try dsimp only [Act.put]
               refine rdy1 10 (fun K hK=>?_)
               rw [if_pos (by rfl)]
               refine wp_store_blk rfl 79 _ _ rfl w_4.heap.size rfl rfl G_9 (by rw [hBm];kernel_rfl) (by rw [hBm];exact zerosOf_length _ _) (allOne_bytes _) ?_
               have G_10:=Blk.setRow G_9 (B.map byte)
               have b_10:=below_setRow' (g:=w_4.heap.size) b_9 le_G_8 (B.map byte).toArray
               refine hK.out _ _ (keep.out b_10) (fun hHeld=>?_)
               clear hK K
               try dsimp only [Act.put]
               refine wpAnyH_done (by kernel_rfl) ?_ _
               go_wp2_with fail
               go_meet
               case rel=>exact ⟨_,rfl,by omega,G_10,gl_keep.out b_10,bV.trans (b_10.mono hwV)⟩
           · go_simp
             obtain ⟨w_11,hw_11⟩:∃ x,x = World.alloc w_3 (.cells (zerosOf 8 .u8).toArray 79):=⟨_,rfl⟩
             have bel_11:Below w_3.heap.size w_3 w_11:=by rw [hw_11];exact below_new _ _
             have G_11:Blk w_11 w_3.heap.size 79 (zerosOf 8 .u8):=by rw [hw_11];exact Blk.new _ _ _
             have le_G_11:=b_3.size
             have bs_11:=bs_3.below bel_11 bs_3.lt
             have b_11:=below_step b_3 bel_11
             rw [← hw_11]
             clear hw_11
             refine hK.out _ _ (keep.out b_11) (fun hHeld=>?_)
             clear hK K
             try dsimp only [Act.put]
             refine rdy1 6 (fun K hK=>?_)
             go_simp
             refine (newTdea_any X _ hXl).mono ?_
             rintro e w_12 ⟨S_12,rfl,-,hS_12,bel_12⟩
             have bs_12:=bs_11.below bel_12 bs_11.lt
             have G_12:=G_11.below bel_12 G_11.lt
             have b_12:=below_step b_11 bel_12
             go_wp2_with fail
             refine hK.out _ _ (keep.out b_12) (fun hHeld=>?_)
             clear hK K
             try dsimp only [Act.put]
             refine rdy1 8 (fun K hK=>?_)
             go_simp
             refine (HE2.out S_12 _ hS_12).mono ?_
             rintro e w_13 ⟨rfl,bel_13⟩
             have bs_13:=bs_12.below bel_13 bs_12.lt
             have G_13:=G_12.below bel_13 G_12.lt
             have box_13:=hS_12.below bel_13 hS_12.lt
             have b_13:=below_step b_12 bel_13
             go_wp2_with fail
             refine hK.out _ _ (keep.out b_13) (fun hHeld=>?_)
             clear hK K
             try dsimp only [Act.put]
             refine rdy1 10 (fun K hK=>?_)
             rw [if_pos (by rfl)]
             refine wp_store_blk rfl 79 _ _ rfl w_3.heap.size rfl rfl G_13 (by rw [hBm];kernel_rfl) (by rw [hBm];exact zerosOf_length _ _) (allOne_bytes _) ?_
             have G_14:=Blk.setRow G_13 (B.map byte)
             have b_14:=below_setRow' (g:=w_3.heap.size) b_13 le_G_11 (B.map byte).toArray
             refine hK.out _ _ (keep.out b_14) (fun hHeld=>?_)
             clear hK K
             try dsimp only [Act.put]
             refine wpAnyH_done (by kernel_rfl) ?_ _
             go_wp2_with fail
             go_meet
             case rel=>exact ⟨_,rfl,by omega,G_14,gl_keep.out b_14,bV.trans (b_14.mono hwV)⟩
         · go_simp
           obtain ⟨w_15,hw_15⟩:∃ x,x = World.alloc w_2 (.cells (zerosOf 8 .u8).toArray 79):=⟨_,rfl⟩
           have bel_15:Below w_2.heap.size w_2 w_15:=by rw [hw_15];exact below_new _ _
           have G_15:Blk w_15 w_2.heap.size 79 (zerosOf 8 .u8):=by rw [hw_15];exact Blk.new _ _ _
           have le_G_15:=b_2.size
           have bs_15:=bs_2.below bel_15 bs_2.lt
           have b_15:=below_step b_2 bel_15
           rw [← hw_15]
           clear hw_15
           refine hK.out _ _ (keep.out b_15) (fun hHeld=>?_)
           clear hK K
           try dsimp only [Act.put]
           refine rdy1 5 (fun K hK=>?_)
           go_simp
           refine (HX2.out w_1.heap.size _ bs_15).mono ?_
           rintro e w_16 ⟨rfl,bel_16⟩
           have bs_16:=bs_15.below bel_16 bs_15.lt
           have G_16:=G_15.below bel_16 G_15.lt
           have b_16:=below_step b_15 bel_16
           go_wp2_with fail
           refine hK.out _ _ (keep.out b_16) (fun hHeld=>?_)
           clear hK K
           try dsimp only [Act.put]
           refine rdy1 6 (fun K hK=>?_)
           go_simp
           refine (newTdea_any X _ hXl).mono ?_
           rintro e w_17 ⟨S_17,rfl,-,hS_17,bel_17⟩
           have bs_17:=bs_16.below bel_17 bs_16.lt
           have G_17:=G_16.below bel_17 G_16.lt
           have b_17:=below_step b_16 bel_17
           go_wp2_with fail
           refine hK.out _ _ (keep.out b_17) (fun hHeld=>?_)
           clear hK K
           try dsimp only [Act.put]
           refine rdy1 8 (fun K hK=>?_)
           go_simp
           refine (HE2.out S_17 _ hS_17).mono ?_
           rintro e w_18 ⟨rfl,bel_18⟩
           have bs_18:=bs_17.below bel_18 bs_17.lt
           have G_18:=G_17.below bel_18 G_17.lt
           have box_18:=hS_17.below bel_18 hS_17.lt
           have b_18:=below_step b_17 bel_18
           go_wp2_with fail
           refine hK.out _ _ (keep.out b_18) (fun hHeld=>?_)
           clear hK K
           try dsimp only [Act.put]
           refine rdy1 10 (fun K hK=>?_)
           rw [if_pos (by rfl)]
           refine wp_store_blk rfl 79 _ _ rfl w_2.heap.size rfl rfl G_18 (by rw [hBm];kernel_rfl) (by rw [hBm];exact zerosOf_length _ _) (allOne_bytes _) ?_
           have G_19:=Blk.setRow G_18 (B.map byte)
           have b_19:=below_setRow' (g:=w_2.heap.size) b_18 le_G_15 (B.map byte).toArray
           refine hK.out _ _ (keep.out b_19) (fun hHeld=>?_)
           clear hK K
           try dsimp only [Act.put]
           refine wpAnyH_done (by kernel_rfl) ?_ _
           go_wp2_with fail
           go_meet
           case rel=>exact ⟨_,rfl,by omega,G_19,gl_keep.out b_19,bV.trans (b_19.mono hwV)⟩
       · go_simp
         obtain ⟨w_20,hw_20⟩:∃ x,x = World.alloc w_1 (.cells (zerosOf 8 .u8).toArray 79):=⟨_,rfl⟩
         have bel_20:Below w_1.heap.size w_1 w_20:=by rw [hw_20];exact below_new _ _
         have G_20:Blk w_20 w_1.heap.size 79 (zerosOf 8 .u8):=by rw [hw_20];exact Blk.new _ _ _
         have le_G_20:=b_1.size
         have b_20:=below_step b_1 bel_20
         rw [← hw_20]
         clear hw_20
         refine hK.out _ _ (keep.out b_20) (fun hHeld=>?_)
         clear hK K
         try dsimp only [Act.put]
         refine rdy1 4 (fun K hK=>?_)
         rw [if_pos (by rfl)]
         refine wp_build2 (some 34) rfl 140 _ _ rfl 67 16 _ (bdk.map byte) (mm.map byte) rfl rfl Tryz.underlying140 Tryz.zero67 hkl hmm (by omega) (by omega) ?_
         try dsimp only [Act.put]
         obtain ⟨w_21,hw_21⟩:∃ x,x = World.alloc w_20 (.cells (bdk.map byte ++ mm.map byte).toArray 67):=⟨_,rfl⟩
         have bel_21:Below w_20.heap.size w_20 w_21:=by rw [hw_21];exact below_new _ _
         have bs_21:Blk w_21 w_20.heap.size 67 (bdk.map byte ++ mm.map byte):=by rw [hw_21];exact Blk.new _ _ _
         have le_bs_21:=b_20.size
         have G_21:=G_20.below bel_21 G_20.lt
         have b_21:=below_step b_20 bel_21
         rw [← hw_21]
         clear hw_21
         refine hK.out _ _ (keep.out b_21) (fun hHeld=>?_)
         clear hK K
         try dsimp only [Act.put]
         refine rdy1 5 (fun K hK=>?_)
         go_simp
         refine (HX2.out w_20.heap.size _ bs_21).mono ?_
         rintro e w_22 ⟨rfl,bel_22⟩
         have G_22:=G_21.below bel_22 G_21.lt
         have bs_22:=bs_21.below bel_22 bs_21.lt
         have b_22:=below_step b_21 bel_22
         go_wp2_with fail
         refine hK.out _ _ (keep.out b_22) (fun hHeld=>?_)
         clear hK K
         try dsimp only [Act.put]
         refine rdy1 6 (fun K hK=>?_)
         go_simp
         refine (newTdea_any X _ hXl).mono ?_
         rintro e w_23 ⟨S_23,rfl,-,hS_23,bel_23⟩
         have G_23:=G_22.below bel_23 G_22.lt
         have bs_23:=bs_22.below bel_23 bs_22.lt
         have b_23:=below_step b_22 bel_23
         go_wp2_with fail
         refine hK.out _ _ (keep.out b_23) (fun hHeld=>?_)
         clear hK K
         try dsimp only [Act.put]
         refine rdy1 8 (fun K hK=>?_)
         go_simp
         refine (HE2.out S_23 _ hS_23).mono ?_
         rintro e w_24 ⟨rfl,bel_24⟩
         have G_24:=G_23.below bel_24 G_23.lt
         have bs_24:=bs_23.below bel_24 bs_23.lt
         have box_24:=hS_23.below bel_24 hS_23.lt
         have b_24:=below_step b_23 bel_24
         go_wp2_with fail
         refine hK.out _ _ (keep.out b_24) (fun hHeld=>?_)
         clear hK K
         try dsimp only [Act.put]
         refine rdy1 10 (fun K hK=>?_)
         rw [if_pos (by rfl)]
         refine wp_store_blk rfl 79 _ _ rfl w_1.heap.size rfl rfl G_24 (by rw [hBm];kernel_rfl) (by rw [hBm];exact zerosOf_length _ _) (allOne_bytes _) ?_
         have G_25:=Blk.setRow G_24 (B.map byte)
         have b_25:=below_setRow' (g:=w_1.heap.size) b_24 le_G_20 (B.map byte).toArray
         refine hK.out _ _ (keep.out b_25) (fun hHeld=>?_)
         clear hK K
         try dsimp only [Act.put]
         refine wpAnyH_done (by kernel_rfl) ?_ _
         go_wp2_with fail
         go_meet
         case rel=>exact ⟨_,rfl,by omega,G_25,gl_keep.out b_25,bV.trans (b_25.mono hwV)⟩
     · go_simp
       obtain ⟨w_26,hw_26⟩:∃ x,x = World.alloc V (.cells (zerosOf 8 .u8).toArray 79):=⟨_,rfl⟩
       have bel_26:Below V.heap.size V w_26:=by rw [hw_26];exact below_new _ _
       have G_26:Blk w_26 V.heap.size 79 (zerosOf 8 .u8):=by rw [hw_26];exact Blk.new _ _ _
       have le_G_26:=b_0.size
       have b_26:=below_step b_0 bel_26
       rw [← hw_26]
       clear hw_26
       refine hK.out _ _ (keep.out b_26) (fun hHeld=>?_)
       clear hK K
       try dsimp only [Act.put]
       refine rdy1 3 (fun K hK=>?_)
       go_simp
       refine (HM.out _).mono ?_
       rintro e w_27 ⟨rfl,bel_27⟩
       have G_27:=G_26.below bel_27 G_26.lt
       have b_27:=below_step b_26 bel_27
       go_wp2_with fail
       refine hK.out _ _ (keep.out b_27) (fun hHeld=>?_)
       clear hK K
       try dsimp only [Act.put]
       refine rdy1 4 (fun K hK=>?_)
       rw [if_pos (by rfl)]
       refine wp_build2 (some 34) rfl 140 _ _ rfl 67 16 _ (bdk.map byte) (mm.map byte) rfl rfl Tryz.underlying140 Tryz.zero67 hkl hmm (by omega) (by omega) ?_
       try dsimp only [Act.put]
       obtain ⟨w_28,hw_28⟩:∃ x,x = World.alloc w_27 (.cells (bdk.map byte ++ mm.map byte).toArray 67):=⟨_,rfl⟩
       have bel_28:Below w_27.heap.size w_27 w_28:=by rw [hw_28];exact below_new _ _
       have bs_28:Blk w_28 w_27.heap.size 67 (bdk.map byte ++ mm.map byte):=by rw [hw_28];exact Blk.new _ _ _
       have le_bs_28:=b_27.size
       have G_28:=G_27.below bel_28 G_27.lt
       have b_28:=below_step b_27 bel_28
       rw [← hw_28]
       clear hw_28
       refine hK.out _ _ (keep.out b_28) (fun hHeld=>?_)
       clear hK K
       try dsimp only [Act.put]
       refine rdy1 5 (fun K hK=>?_)
       go_simp
       refine (HX2.out w_27.heap.size _ bs_28).mono ?_
       rintro e w_29 ⟨rfl,bel_29⟩
       have G_29:=G_28.below bel_29 G_28.lt
       have bs_29:=bs_28.below bel_29 bs_28.lt
       have b_29:=below_step b_28 bel_29
       go_wp2_with fail
       refine hK.out _ _ (keep.out b_29) (fun hHeld=>?_)
       clear hK K
       try dsimp only [Act.put]
       refine rdy1 6 (fun K hK=>?_)
       go_simp
       refine (newTdea_any X _ hXl).mono ?_
       rintro e w_30 ⟨S_30,rfl,-,hS_30,bel_30⟩
       have G_30:=G_29.below bel_30 G_29.lt
       have bs_30:=bs_29.below bel_30 bs_29.lt
       have b_30:=below_step b_29 bel_30
       go_wp2_with fail
       refine hK.out _ _ (keep.out b_30) (fun hHeld=>?_)
       clear hK K
       try dsimp only [Act.put]
       refine rdy1 8 (fun K hK=>?_)
       go_simp
       refine (HE2.out S_30 _ hS_30).mono ?_
       rintro e w_31 ⟨rfl,bel_31⟩
       have G_31:=G_30.below bel_31 G_30.lt
       have bs_31:=bs_30.below bel_31 bs_30.lt
       have box_31:=hS_30.below bel_31 hS_30.lt
       have b_31:=below_step b_30 bel_31
       go_wp2_with fail
       refine hK.out _ _ (keep.out b_31) (fun hHeld=>?_)
       clear hK K
       try dsimp only [Act.put]
       refine rdy1 10 (fun K hK=>?_)
       rw [if_pos (by rfl)]
       refine wp_store_blk rfl 79 _ _ rfl V.heap.size rfl rfl G_31 (by rw [hBm];kernel_rfl) (by rw [hBm];exact zerosOf_length _ _) (allOne_bytes _) ?_
       have G_32:=Blk.setRow G_31 (B.map byte)
       have b_32:=below_setRow' (g:=V.heap.size) b_31 le_G_26 (B.map byte).toArray
       refine hK.out _ _ (keep.out b_32) (fun hHeld=>?_)
       clear hK K
       try dsimp only [Act.put]
       refine wpAnyH_done (by kernel_rfl) ?_ _
       go_wp2_with fail
       go_meet
       case rel=>exact ⟨_,rfl,by omega,G_32,gl_keep.out b_32,bV.trans (b_32.mono hwV)⟩
   case rest =>
     clear kG1 k1 bW
     obtain ⟨G2,rfl,hG2,kG2,kG1,bW⟩:=hcut
     go_wp2_with fail
     obtain ⟨V,hV⟩:∃ V,V = World.drew wc:=⟨_,rfl⟩
     replace kG1:Blk V G1 79 (A.map byte):=by rw [hV];exact kG1.drew1
     replace kG2:Blk V G2 79 (B.map byte):=by rw [hV];exact kG2.drew1
     have bV:Below w.heap.size w V:=by rw [hV];exact bW.drew
     have hwV:=bV.size
     clear bW
     have b_0:Below V.heap.size V V:=Below.refl _ _
     have hsrc:Hid (∀ {x},Below V.heap.size V x → ∀ k,k < 2 → Src x ([Value.slice (some ⟨G1,0,none⟩) 8 8,Value.slice (some ⟨G2,0,none⟩) 8 8].getD k undef) ([A,B].getD k [])):=by
       intro x hx k hk
       match k,hk with
       | 0,_=>exact ⟨G1,0,8,by rw [show ([A,B].getD 0 []).length = 8 from hA8];rfl,rowAt_block (kG1.below hx kG1.lt)⟩
       | 1,_=>exact ⟨G2,0,8,by rw [show ([A,B].getD 1 []).length = 8 from hB8];rfl,rowAt_block (kG2.below hx kG2.lt)⟩
     have keep:Hid (∀ {B x},Below B V x → True):=fun _=>trivial
     refine wp_region_held_drew (S:=fun _=>True) (by kernel_rfl) trivial (fun hHeld=>?_)
     rw [← hV]
     clear hV
     refine tk (i:=0) (v:=(Value.slice (some ⟨G1,0,none⟩) 8 8)) rfl (Or.inl ⟨by rfl,?_⟩) hHeld ?_
     · intro _ _;go_simp
     try dsimp only [Act.put]
     refine tk (i:=1) (v:=(Value.slice (some ⟨G2,0,none⟩) 8 8)) rfl (Or.inl ⟨by rfl,?_⟩) hHeld ?_
     · intro _ _;go_simp
     try dsimp only [Act.put]
     refine rdy1 2 (fun K hK=>?_)
     go_simp
     obtain ⟨w_1,hw_1⟩:∃ x,x = World.alloc V (.cells ([Value.slice (some ⟨G1,0,none⟩) 8 8,Value.slice (some ⟨G2,0,none⟩) 8 8]).toArray 22):=⟨_,rfl⟩
     have bel_1:Below V.heap.size V w_1:=by rw [hw_1];exact below_new _ _
     have sl_1:Blk w_1 V.heap.size 22 ([Value.slice (some ⟨G1,0,none⟩) 8 8,Value.slice (some ⟨G2,0,none⟩) 8 8]):=by rw [hw_1];exact Blk.new _ _ _
     have le_sl_1:=b_0.size
     have b_1:=below_step b_0 bel_1
     rw [← hw_1]
     clear hw_1
     refine hK.out _ _ (keep.out b_1) (fun hHeld=>?_)
     clear hK K
     try dsimp only [Act.put]
     refine rdy1 3 (fun K hK=>?_)
     go_simp
     refine (concat_any [Value.slice (some ⟨G1,0,none⟩) 8 8,Value.slice (some ⟨G2,0,none⟩) 8 8] [A,B] V.heap.size 0 2 2 _ rfl rfl (by omega) hfl (blk_whole sl_1) (hsrc.out b_1)).mono ?_
     rintro e w_2 ⟨v_2,rfl,own_2,bel_2⟩
     have sl_2:=sl_1.below bel_2 sl_1.lt
     have b_2:=below_step b_1 bel_2
     have bq:=b_2
     go_wp2_with fail
     refine hK.out _ _ (keep.out b_2) (fun hHeld=>?_)
     clear hK K
     try dsimp only [Act.put]
     refine rdy1 4 (fun K hK=>?_)
     go_simp
     refine hK.out _ _ (keep.out b_2) (fun hHeld=>?_)
     clear hK K
     try dsimp only [Act.put]
     refine wpAnyH_done (by kernel_rfl) ?_ _
     go_wp2_with fail
     go_ret
     refine ⟨_,rfl,?_,bV.trans (bq.mono hwV)⟩
     have h:=(own_2.mono (Nat.le_trans hwV b_1.size)).own
     rw [hfa] at h
     exact h
set_option maxRecDepth 100000 in
set_option maxHeartbeats 1000000 in
theorem dinit_wrong (n m:Nat) (ak ab:Option Addr) (ck cb:Nat) (w:World) (_hn:n ≤ 1048576) (_hm:m ≤ 1048576) (h:¬ (n = 16 ∧ m = 10)) :
   Calls Tryz.prog 135 #[.slice ak n ck,.slice ab m cb] w fun e w'=>e = .returned (.slice none 0 0) ∧ w' = w:=by
 by_cases h1:n = 16
 · have h2:((m:Int) != 10) = true:=by rw [bne_iff_ne];omega
   subst h1
   go_enter Tryz.func135,Tryz.ntmps135
   go_wp2
   go_ret
   exact ⟨rfl,rfl⟩
 · have h2:((n:Int) != 16) = true:=by rw [bne_iff_ne];omega
   go_enter Tryz.func135,Tryz.ntmps135
   go_wp2
   go_ret
   exact ⟨rfl,rfl⟩
def dinitAll (bdk ksn:List UInt8):List UInt8:=if bdk.length = 16 ∧ ksn.length = 10 then dinitL bdk ksn else []
theorem dinit_all (bdk ksn:List UInt8) (ak ab:Option Addr) (ck cb:Nat) (w:World) (hn:bdk.length ≤ 1048576) (hm:ksn.length ≤ 1048576) (_hc:bdk.length ≤ ck) (hd:ksn.length ≤ cb) (rk:RowAt w ak bdk) (rb:RowAt w ab ksn) :
   Calls Tryz.prog 135 #[.slice ak bdk.length ck,.slice ab ksn.length cb] w fun e w' =>
     ∃ v,e = .returned v ∧ Own w' w.heap.size v (dinitAll bdk ksn) ∧ Below w.heap.size w w':=by
 unfold dinitAll
 by_cases h:bdk.length = 16 ∧ ksn.length = 10
 · rw [if_pos h]
   obtain ⟨kb,ko,rfl,hk⟩:=rk.range (by omega)
   obtain ⟨sb,so,rfl,hs⟩:=rb.range (by omega)
   have:=dinit_ok bdk ksn kb ko sb so ck cb w h.1 h.2 (by omega) hk hs
   rw [h.1,h.2]
   exact this
 · rw [if_neg h]
   refine (dinit_wrong _ _ ak ab ck cb w hn hm h).mono ?_
   rintro e w' ⟨rfl,rfl⟩
   exact ⟨_,rfl,⟨5,World.ownsRow_nil _ _ _ _⟩,Below.refl _ _⟩
end Go.Proofs.YtoajfbkblpaejaaGreatDoor
