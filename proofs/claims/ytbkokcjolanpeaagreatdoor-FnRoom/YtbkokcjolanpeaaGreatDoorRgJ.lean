import Derived.Test.YtbkokcjolanpeaaGreatDoorRgH
import Derived.Test.YtbkokcjolanpeaaGreatDoorRgI
import Derived.Deep.MidRow
import Derived.Deep.RegionHeld3
import Derived.Test.YtbkokcjolanpeaaGreatDoorRgG
namespace Go.Proofs.YtbkokcjolanpeaaGreatDoor
open Go.RowKit
def ksC (key:List UInt8) (j:Nat):Value:=byte ((keyR key (j / 16)).getD (j % 16) 0)
theorem keysUpto_get (key:List UInt8) (h:key.length = 16) (n j:Nat) (hj:j < 16 * n):(keysUpto key n)[j]? = some ((keyR key (j / 16)).getD (j % 16) 0):=by
 induction n with
 | zero=>omega
 | succ n ih =>
   show (keysUpto key n ++ keyR key n)[j]? = _
   have hl:=keysUpto_length key h n
   have hk:=keyR_length key h n
   by_cases e:j < 16 * n
   · rw [List.getElem?_append_left (by omega),ih e]
   · rw [List.getElem?_append_right (by omega),hl,show j / 16 = n from by omega,show j - 16 * n = j % 16 from by omega]
     have:j % 16 < (keyR key n).length:=by omega
     simp [this]
theorem ksC_all (key:List UInt8) (h:key.length = 16):(List.range 176).map (ksC key) = (keysUpto key 11).map byte:=by
 apply List.ext_getElem?
 intro j
 have hl:=keysUpto_length key h 11
 by_cases hj:j < 176
 · rw [List.getElem?_map,List.getElem?_map,List.getElem?_range hj,keysUpto_get key h 11 j (by omega)]
   rfl
 · rw [List.getElem?_eq_none (by simp;omega),List.getElem?_eq_none (by simp;omega)]
theorem ks_range {w:World} {g t n:Nat} {key:List UInt8} {z:Value} (hk:key.length = 16) (h:Blk w g t (upTo (ksC key) z 176 n)) (j:Nat) (hj:16 * (j + 1) ≤ n) (hn:n ≤ 176):w.rangeAt g (j * 16) ((keyR key j).map byte):=by
 intro i v hv
 have hl:=keyR_length key hk j
 have hi:i < 16:=by have:=(List.getElem?_eq_some_iff.1 hv).1;simpa [hl] using this
 rw [upTo_cell h (j * 16 + i) (by omega) hn,← hv]
 unfold ksC
 rw [show (j * 16 + i) / 16 = j from by omega,show (j * 16 + i) % 16 = i from by omega]
 have:i < (keyR key j).length:=by omega
 simp [this]
theorem set_getD (l:List UInt8) (k:Nat) (v:UInt8) (h:k < l.length):(l.set k v).getD k 0 = v:=by
 rw [List.getD_eq_getElem?_getD,List.getElem?_set_self h];rfl
theorem hid_of' {p:Prop} (h:p):Hid p:=h
def setL (cs:List Value):Nat → List Value → List Value
 | _,[]=>cs
 | o,v :: r=>setL (cs.set o v) (o + 1) r
theorem setL_length (vs:List Value):∀ (cs:List Value) (o:Nat),(setL cs o vs).length = cs.length:=by
 induction vs with
 | nil=>intro cs o;rfl
 | cons v r ih=>intro cs o;show (setL (cs.set o v) (o + 1) r).length = _;rw [ih,List.length_set]
theorem setL_get (vs:List Value):∀ (cs:List Value) (o i:Nat),o + vs.length ≤ cs.length → (setL cs o vs)[i]? = if o ≤ i ∧ i < o + vs.length then vs[i - o]? else cs[i]?:=by
 induction vs with
 | nil=>intro cs o i _;rw [if_neg (by simp only [List.length_nil];omega)];rfl
 | cons v r ih =>
   intro cs o i hl
   simp only [List.length_cons] at hl ⊢
   show (setL (cs.set o v) (o + 1) r)[i]? = _
   rw [ih (cs.set o v) (o + 1) i (by rw [List.length_set];omega)]
   by_cases h1:i = o
   · subst h1
     rw [if_neg (by omega),if_pos (by omega),Nat.sub_self,List.getElem?_set_self (by omega)]
     rfl
   · by_cases h2:o + 1 ≤ i ∧ i < o + 1 + r.length
     · rw [if_pos h2,if_pos (by omega),show i - o = i - (o + 1) + 1 from by omega,List.getElem?_cons_succ]
     · rw [if_neg h2,if_neg (by omega),List.getElem?_set_ne (by omega)]
theorem setCells_blk (vs:List Value):∀ {w:World} {g t:Nat} (cs:List Value) (o:Nat),Blk w g t cs → Blk (w.setCells g o vs) g t (setL cs o vs) ∧ w.grownBy (w.setCells g o vs) (some g) ∧ (w.setCells g o vs).heap.size = w.heap.size:=by
 induction vs with
 | nil=>intro w g t cs o h;exact ⟨h,⟨rfl,rfl,rfl,Nat.le_refl _,fun _ _ _=>rfl⟩,rfl⟩
 | cons v r ih =>
   intro w g t cs o h
   obtain ⟨h1,h2,h3⟩:=ih (cs.set o v) (o + 1) (h.set o v)
   have hg:w.grownBy (w.setCell ⟨g,o,none⟩ v) (some g):=⟨rfl,rfl,rfl,by simp,fun k _ hk=>heap_setCell_other w _ k v (fun e=>hk (by rw [e]))⟩
   exact ⟨h1,grown_trans hg h2,h3.trans (by simp)⟩
theorem store_mid {P:Program} {ops:Array Oper} {rest:List Oper} {o:Oper} {a:Act} {w:World} {Q:Exit → Act → World → Prop} (hgd:o.guard = none) (ty:Nat) (x y:Operand) (ho:o.op = .store ty x y)
   (g off:Nat) (hx:a.eval x = .pointer (some ⟨g,off,none⟩)) {t:Nat} {old cs:List Value} (hy:a.eval y = .agg cs.toArray) (hb:Blk w g t old) (hl:off + cs.length ≤ old.length) (hi:(P.info? ty).map (·.size) = some cs.length) (h1:cs.toArray.all (·.oneCell') = true)
   (h:∀ w',Blk w' g t (setL old off cs) → w.grownBy w' (some g) → w'.heap.size = w.heap.size → wpList P ops Q rest (a.put o.dst undef) w'):wpList P ops Q (o :: rest) a w:=by
 refine wpList_store_mid hgd ty x y ho g off cs.toArray hx hy ?_ (by simpa using hi) h1 ?_
 · intro j hj
   have hj':j < cs.length:=by simpa using hj
   exact ⟨by rw [hb.cell (off + j) (by omega)];rfl,hb.free _⟩
 · obtain ⟨k1,k2,k3⟩:=setCells_blk cs old off hb
   exact h _ k1 k2 k3
theorem ks_start (key:List UInt8) (hk:key.length = 16):setL (zerosOf 176 .u8) 0 (key.map byte) = upTo (ksC key) (.int .u8 0) 176 16:=by
 apply List.ext_getElem?
 intro i
 rw [setL_get _ _ _ _ (by rw [zerosOf_length,List.length_map,hk];omega),List.length_map,hk]
 by_cases h1:i < 16
 · rw [if_pos ⟨by omega,by omega⟩]
   have hi:i < key.length:=by omega
   unfold upTo
   rw [List.getElem?_map,List.getElem?_map,List.getElem?_range (by omega),Nat.sub_zero,List.getElem?_eq_getElem hi]
   show some (byte key[i]) = some (if i < 16 then ksC key i else _)
   rw [if_pos h1]
   unfold ksC
   rw [show i / 16 = 0 from by omega,show i % 16 = i from by omega]
   show _ = some (byte (key.getD i 0))
   simp [hi]
 · rw [if_neg (by omega)]
   unfold upTo zerosOf
   by_cases h2:i < 176
   · rw [List.getElem?_map,List.getElem?_range h2,List.getElem?_replicate,if_pos h2]
     show _ = some (if i < 16 then ksC key i else _)
     rw [if_neg h1]
   · rw [List.getElem?_eq_none (by rw [List.length_replicate];omega),List.getElem?_eq_none (by rw [List.length_map,List.length_range];omega)]
theorem ks_next (key:List UInt8) (r i:Nat) (hr:1 ≤ r) (hi:i < 16):ksC key (16 * r + i) = byte ((wordAt (powB (r - 1)) (keyR key (r - 1)) (i + 1)).getD (i % 4) 0):=by
 unfold ksC
 rw [show (16 * r + i) / 16 = r from by omega,show (16 * r + i) % 16 = i from by omega]
 obtain ⟨q,rfl⟩:∃ q,r = q + 1:=⟨r - 1,by omega⟩
 rw [show q + 1 - 1 = q from rfl]
 show byte ((nextK (powB q) (keyR key q)).getD i 0) = _
 unfold nextK
 simp [hi]
theorem Tryz.zero90:(Tryz.prog.info? 90).map (fun i=>(i.zero,i.size)) = some (some (.agg (zerosOf 176 .u8).toArray),176):=by kernel_rfl
theorem Tryz.zero277:(Tryz.prog.info? 277).map (fun i=>(i.zero,i.size)) = some (some (.agg #[.int .u8 0,.int .u8 0,.int .u8 0,.int .u8 0]),4):=by kernel_rfl
set_option maxRecDepth 100000 in
set_option maxHeartbeats 2000000 in
theorem aesKeys_any (key:List UInt8) (w:World) (hk:key.length = 16) :
   Calls Tryz.prog 133 #[.agg (key.map byte).toArray,.agg (subTab.map byte).toArray] w fun e w'=>e = .returned (.agg ((keysUpto key 11).map byte).toArray) ∧ Below w.heap.size w w':=by
 have hz:=(zero_of_info Tryz.zero90).1
 have hz2:=(zero_of_info Tryz.zero277).1
 have hz3:=(zero_of_info Tryz.z16).1
 have hkl:(key.map byte).length = 16:=by rw [List.length_map,hk]
 go_enter Tryz.func133,Tryz.ntmps133
 go_wp2_with (first
   | (refine load_blk rfl 88 _ rfl _ rfl ((((Blk.new w _ _).alloc _).alloc _).alloc _) Tryz.underlying88 rfl (by rw [hkl];kernel_rfl) ?_)
   | (refine store_mid rfl 88 _ _ rfl _ 0 rfl rfl (Blk.newAt _ 90 _ (zerosOf 176 .u8).toArray (by simp)) (by rw [hkl,zerosOf_length];omega) (by rw [hkl];kernel_rfl) (allOne_bytes _) ?_;intro w2 hb2 hg2 hs2))
 have A:Blk w2 (w.heap.size + 1 + 1 + 1) 90 (upTo (ksC key) (.int .u8 0) 176 16) ∧ Blk w2 (w.heap.size + 1 + 1) 90 (zerosOf 176 .u8) ∧ Blk w2 (w.heap.size + 1) 240 (subTab.map byte) ∧ Below w.heap.size w w2:=by
   refine ⟨?_,?_,?_,?_⟩
   · rw [← ks_start key hk];exact hb2
   · exact Blk.grown ((Blk.newAt _ 90 _ (zerosOf 176 .u8).toArray (by simp)).alloc _) hg2 (by simp)
   · exact Blk.grown (((Blk.newAt _ 240 _ (subTab.map byte).toArray (by simp)).alloc _).alloc _) hg2 (by simp)
   · exact (((((Below.refl _ _).alloc (Nat.le_refl _) _).alloc (by simp) _).alloc (by simp;omega) _).alloc (by simp;omega) _).grown hg2 (by simp;omega) (by intro k hk;cases hk;omega)
 obtain ⟨A3,A2,A1,Ab⟩:=A
 clear hb2 hg2 hs2
 go_loopw [6,7,8,9,10,11,42] (fun p i _ _ _ _ _ wr=>∃ r:Nat,1 ≤ r ∧ r ≤ 11 ∧ i = .int .i64 r ∧ p = .int .u8 ((powB (r - 1)).toNat:Int) ∧ Blk wr (w.heap.size + 1 + 1 + 1) 90 (upTo (ksC key) (.int .u8 0) 176 (16 * r)) ∧ Blk wr (w.heap.size + 1 + 1) 90 (zerosOf 176 .u8) ∧ Blk wr (w.heap.size + 1) 240 (subTab.map byte) ∧ Below w.heap.size w wr) (fun _ i _ _ _ _ _ _=>11 - (intOf i).toNat)
 case atStart=>exact ⟨1,by omega,by omega,rfl,rfl,A3,A2,A1,Ab⟩
 case round =>
   clear A3 A2 A1 Ab
   obtain ⟨r,hr1,hr11,rfl,rfl,hb3,hb2,hb1,hbel⟩:=hrel
   by_cases hlt:r < 11
   · have hrI:(r:Int) < 11:=by omega
     obtain ⟨q,hq,hq10,hqI,Hq⟩:∃ q:Nat,IntKind.i64.wrap ((r:Int) - 1) = (q:Int) ∧ q < 11 ∧ (q:Int) < 11 ∧ Hid (r = q + 1):=⟨r - 1,by rw [IntKind.wrap_i64];omega,by omega,by omega,hid_of' (by omega:r = r - 1 + 1)⟩
     have hrange:=ks_range hk hb3 q (by have:=Hq.out;omega) (by omega)
     have hll:=keyR_length key hk q
     obtain ⟨pw,hpw,Hpw⟩:∃ pw:UInt8,powB (r - 1) = pw ∧ Hid (pw = powB q):=⟨_,rfl,hid_of' (by rw [Hq.out];rfl)⟩
     obtain ⟨last,Hlast⟩:∃ l,Hid (l = keyR key q):=⟨_,hid_of' rfl⟩
     rw [← Hlast.out] at hrange hll
     rw [hpw]
     have hlm:(last.map byte).length = 16:=by rw [List.length_map,hll]
     go_wp2_with (first
       | (refine wpList_load_mid rfl 88 _ rfl _ (q * 16) rfl (last.map byte) _ hrange Tryz.underlying88 rfl (by rw [hlm];kernel_rfl) ?_)
       | (refine store_blk rfl 88 _ _ rfl _ rfl rfl (Blk.new wr _ _) (by rw [hlm];kernel_rfl) (by rw [zerosOf_length,hlm]) (allOne_bytes _) ?_;intro w3 hb4 hg3 hs3))
     obtain ⟨L,hL⟩:∃ L,L = wr.heap.size:=⟨_,rfl⟩
     have hLl:w.heap.size + 4 ≤ L:=by have:=hb3.lt;omega
     have g3:Blk w3 (w.heap.size + 1 + 1 + 1) 90 (upTo (ksC key) (.int .u8 0) 176 (16 * r)):=(hb3.alloc _).grown hg3 (by simp;omega)
     have g2:Blk w3 (w.heap.size + 1 + 1) 90 (zerosOf 176 .u8):=(hb2.alloc _).grown hg3 (by simp;omega)
     have g1:Blk w3 (w.heap.size + 1) 240 (subTab.map byte):=(hb1.alloc _).grown hg3 (by simp;omega)
     have gbel:Below w.heap.size w w3:=(hbel.alloc hbel.size _).grown hg3 (by simp;omega) (by intro k hk;cases hk;omega)
     have hLs:L < w3.heap.size:=by rw [hL];exact hb4.lt
     rw [← hL] at hb4 ⊢
     clear hb3 hb2 hb1 hbel hg3 hs3 hL hrange
     have hsl:=subTab_length
     obtain ⟨x12,l12,X12⟩:∃ y:Nat,y < 256 ∧ Hid (y = (last.getD 12 0).toNat):=⟨_,UInt8.toNat_lt _,rfl⟩
     obtain ⟨x13,l13,X13⟩:∃ y:Nat,y < 256 ∧ Hid (y = (last.getD 13 0).toNat):=⟨_,UInt8.toNat_lt _,rfl⟩
     obtain ⟨x14,l14,X14⟩:∃ y:Nat,y < 256 ∧ Hid (y = (last.getD 14 0).toNat):=⟨_,UInt8.toNat_lt _,rfl⟩
     obtain ⟨x15,l15,X15⟩:∃ y:Nat,y < 256 ∧ Hid (y = (last.getD 15 0).toNat):=⟨_,UInt8.toNat_lt _,rfl⟩
     have d12:w3.cell? ⟨L,12,none⟩ = some (.int .u8 (x12:Int)):=by rw [map_cell hb4 12 (by omega),X12.out]
     have d13:w3.cell? ⟨L,13,none⟩ = some (.int .u8 (x13:Int)):=by rw [map_cell hb4 13 (by omega),X13.out]
     have d14:w3.cell? ⟨L,14,none⟩ = some (.int .u8 (x14:Int)):=by rw [map_cell hb4 14 (by omega),X14.out]
     have d15:w3.cell? ⟨L,15,none⟩ = some (.int .u8 (x15:Int)):=by rw [map_cell hb4 15 (by omega),X15.out]
     obtain ⟨y12,m12,Y12⟩:∃ y:Nat,y < 256 ∧ Hid (y = (subTab.getD x12 0).toNat):=⟨_,UInt8.toNat_lt _,rfl⟩
     obtain ⟨y13,m13,Y13⟩:∃ y:Nat,y < 256 ∧ Hid (y = (subTab.getD x13 0).toNat):=⟨_,UInt8.toNat_lt _,rfl⟩
     obtain ⟨y14,m14,Y14⟩:∃ y:Nat,y < 256 ∧ Hid (y = (subTab.getD x14 0).toNat):=⟨_,UInt8.toNat_lt _,rfl⟩
     obtain ⟨y15,m15,Y15⟩:∃ y:Nat,y < 256 ∧ Hid (y = (subTab.getD x15 0).toNat):=⟨_,UInt8.toNat_lt _,rfl⟩
     have e12:w3.cell? ⟨w.heap.size + 1,x12,none⟩ = some (.int .u8 (y12:Int)):=by rw [map_cell g1 x12 (by omega),Y12.out]
     have e13:w3.cell? ⟨w.heap.size + 1,x13,none⟩ = some (.int .u8 (y13:Int)):=by rw [map_cell g1 x13 (by omega),Y13.out]
     have e14:w3.cell? ⟨w.heap.size + 1,x14,none⟩ = some (.int .u8 (y14:Int)):=by rw [map_cell g1 x14 (by omega),Y14.out]
     have e15:w3.cell? ⟨w.heap.size + 1,x15,none⟩ = some (.int .u8 (y15:Int)):=by rw [map_cell g1 x15 (by omega),Y15.out]
     obtain ⟨pn,hpn,pn8,Hpn⟩:∃ n:Nat,pw.toNat = n ∧ n < 256 ∧ Hid (pw.toNat = n):=⟨_,rfl,UInt8.toNat_lt _,rfl⟩
     rw [hpn]
     obtain ⟨z13,hz13,Z13⟩:∃ z:Nat,bits BinOp.xor IntKind.u8 (y13:Int) (pn:Int) = (z:Int) ∧ Hid (z = y13 ^^^ pn):=⟨_,u8_xor_nat _ _ m13 pn8,rfl⟩
     have I12:(x12:Int) < 256:=by omega
     have I13:(x13:Int) < 256:=by omega
     have I14:(x14:Int) < 256:=by omega
     have I15:(x15:Int) < 256:=by omega
     clear hpn
     have hall:∀ (b o:Nat) (v:Value),w3.cell? ⟨b,o,none⟩ = some v → (w3.alloc (.cells #[Value.int IntKind.u8 0,Value.int IntKind.u8 0,Value.int IntKind.u8 0,Value.int IntKind.u8 0] 277)).cell? ⟨b,o,none⟩ = some v:=fun b o v h=>((Below.refl _ w3).alloc (Nat.le_refl _) _).cell (p:=⟨b,o,none⟩) (World.block_lt_of_cell? w3 _ h) ▸ h
     have d12':=hall _ _ _ d12
     have d13':=hall _ _ _ d13
     have d14':=hall _ _ _ d14
     have d15':=hall _ _ _ d15
     have e12':=hall _ _ _ e12
     have e13':=hall _ _ _ e13
     have e14':=hall _ _ _ e14
     have e15':=hall _ _ _ e15
     clear hall
     dsimp only [Act.put]
     go_cut [9] (fun p wx=>p = .pointer (some ⟨w3.heap.size,0,none⟩) ∧ wx = (w3.alloc (.cells #[.int .u8 (z13:Int),.int .u8 (y14:Int),.int .u8 (y15:Int),.int .u8 (y12:Int)] 277)).drew)
     case first =>
       go_region_held3 (fun w'=>w'.cell? ⟨L,12,none⟩ = some (.int .u8 (x12:Int)) ∧ w'.cell? ⟨L,13,none⟩ = some (.int .u8 (x13:Int)) ∧ w'.cell? ⟨L,14,none⟩ = some (.int .u8 (x14:Int)) ∧ w'.cell? ⟨L,15,none⟩ = some (.int .u8 (x15:Int)) ∧ w'.cell? ⟨w.heap.size + 1,x12,none⟩ = some (.int .u8 (y12:Int)) ∧ w'.cell? ⟨w.heap.size + 1,x13,none⟩ = some (.int .u8 (y13:Int)) ∧ w'.cell? ⟨w.heap.size + 1,x14,none⟩ = some (.int .u8 (y14:Int)) ∧ w'.cell? ⟨w.heap.size + 1,x15,none⟩ = some (.int .u8 (y15:Int))) (first | exact ⟨d12,d13,d14,d15,e12,e13,e14,e15⟩ | exact ⟨d12',d13',d14',d15',e12',e13',e14',e15'⟩ | go_keep) (fail)
       all_goals
         go_wp2_with fail
         go_meet
         case rel=>exact ⟨rfl,rfl⟩
     case rest =>
       obtain ⟨rfl,hwx⟩:=hcut
       have W4:(wordAt pw last 0).map byte = [.int .u8 (z13:Int),.int .u8 (y14:Int),.int .u8 (y15:Int),.int .u8 (y12:Int)]:=by
         show [byte (subB (last.getD 13 0) ^^^ pw),byte (subB (last.getD 14 0)),byte (subB (last.getD 15 0)),byte (subB (last.getD 12 0))] = _
         unfold subB
         rw [← X12.out,← X13.out,← X14.out,← X15.out,Z13.out,← Hpn.out,Y12.out,Y13.out,Y14.out,Y15.out,← UInt8.toNat_xor]
         rfl
       obtain ⟨WB,hWB⟩:∃ n,n = w3.heap.size:=⟨_,rfl⟩
       have f4:Blk wc WB 277 ((wordAt pw last 0).map byte):=by rw [hwx,W4,hWB];exact Blk.drew1 (Blk.new w3 _ _)
       have f3:Blk wc (w.heap.size + 1 + 1 + 1) 90 (upTo (ksC key) (.int .u8 0) 176 (16 * r)):=by rw [hwx];exact (g3.alloc _).drew1
       have f2:Blk wc (w.heap.size + 1 + 1) 90 (zerosOf 176 .u8):=by rw [hwx];exact (g2.alloc _).drew1
       have f1:Blk wc (w.heap.size + 1) 240 (subTab.map byte):=by rw [hwx];exact (g1.alloc _).drew1
       have f0:Blk wc L 88 (last.map byte):=by rw [hwx];exact (hb4.alloc _).drew1
       have fbel:Below w.heap.size w wc:=by rw [hwx];exact (gbel.alloc gbel.size _).drew
       have hWl:w.heap.size + 5 ≤ WB:=by omega
       have Hpw2:Hid (pw.toNat = pn):=Hpn
       rw [← hWB]
       clear hwx W4 g3 g2 g1 gbel hb4 d12 d13 d14 d15 e12 e13 e14 e15 d12' d13' d14' d15' e12' e13' e14' e15' hz13 I12 I13 I14 I15 hWB hLs
       go_wp2_with (refine load_blk rfl 88 _ rfl _ rfl f0 Tryz.underlying88 rfl (by rw [hlm];kernel_rfl) ?_)
       go_loopw [10,11,42] (fun _ _ c wr=>∃ i:Nat,i ≤ 16 ∧ c = .int .i64 i ∧ Blk wr WB 277 ((wordAt pw last i).map byte) ∧ Blk wr (w.heap.size + 1 + 1 + 1) 90 (upTo (ksC key) (.int .u8 0) 176 (16 * r + i)) ∧ Blk wr (w.heap.size + 1 + 1) 90 (zerosOf 176 .u8) ∧ Blk wr (w.heap.size + 1) 240 (subTab.map byte) ∧ Below w.heap.size w wr) (fun _ _ c _=>16 - (intOf c).toNat)
       case atStart=>exact ⟨0,by omega,rfl,f4,f3,f2,f1,fbel⟩
       case round =>
         clear f4 f3 f2 f1 f0 fbel
         obtain ⟨i,hi16,rfl,f4,f3,f2,f1,fbel⟩:=hrel
         by_cases hil:i < 16
         · have hiI:(i:Int) < 16:=by omega
           obtain ⟨xb,lb,Xb⟩:∃ y:Nat,y < 256 ∧ Hid (y = (last.getD i 0).toNat):=⟨_,UInt8.toNat_lt _,rfl⟩
           have hix:=run_index_agg (P:=Tryz.prog) Tryz.underlying88 Tryz.underlying5 rfl (by kernel_rfl) (last.map byte).toArray .i64 i hil (.int .u8 (xb:Int)) (by rw [map_agg last i (by omega),Xb.out])
           obtain ⟨m,hm,hm4,hmI,Hm⟩:∃ m:Nat,Int.tmod (i:Int) 4 = (m:Int) ∧ m < 4 ∧ (m:Int) < 4 ∧ Hid (m = i % 4):=⟨i % 4,by rw [Int.tmod_eq_emod_of_nonneg (by omega)];omega,by omega,by omega,rfl⟩
           have hwl:=wordAt_length pw last i
           obtain ⟨v,lv,Hv⟩:∃ y:Nat,y < 256 ∧ Hid (y = ((wordAt pw last i).getD m 0).toNat):=⟨_,UInt8.toNat_lt _,rfl⟩
           have hcv:wr.cell? ⟨WB,m,none⟩ = some (.int .u8 (v:Int)):=by rw [map_cell f4 m (by omega),Hv.out]
           have hfv:=f4.free m
           obtain ⟨v2,hv2,lv2,Hv2⟩:∃ z:Nat,bits BinOp.xor IntKind.u8 (v:Int) (xb:Int) = (z:Int) ∧ z < 256 ∧ Hid (z = v ^^^ xb):=⟨_,u8_xor_nat _ _ lv lb,Nat.xor_lt_two_pow (n:=8) lv lb,rfl⟩
           have HV:Hid (Value.int .u8 (v2:Int) = byte ((wordAt pw last i).getD (i % 4) 0 ^^^ last.getD i 0)):=hid_of' (by
             show Value.int .u8 _ = Value.int .u8 _
             rw [UInt8.toNat_xor,Hv2.out,Hv.out,Xb.out,Hm.out])
           have hst:=f4.set m (.int .u8 (v2:Int))
           have hst':Blk (wr.setCell ⟨WB,m,none⟩ (.int .u8 (v2:Int))) WB 277 ((wordAt pw last (i + 1)).map byte):=by
             rw [HV.out,Hm.out,← List.map_set] at hst
             rw [HV.out,Hm.out]
             exact hst
           have k3:=f3.other ⟨WB,m,none⟩ (.int .u8 (v2:Int)) (by simp;omega)
           have k2:=f2.other ⟨WB,m,none⟩ (.int .u8 (v2:Int)) (by simp;omega)
           have k1:=f1.other ⟨WB,m,none⟩ (.int .u8 (v2:Int)) (by simp;omega)
           have kb:=fbel.setCell (p:=⟨WB,m,none⟩) (by show w.heap.size ≤ WB;omega) (.int .u8 (v2:Int))
           have HN:Hid (Value.int .u8 (v2:Int) = ksC key (16 * r + i)):=hid_of' (by
             rw [ks_next key r i hr1 hil,Hq.out,show q + 1 - 1 = q from rfl,← Hpw.out,← Hlast.out,HV.out]
             show _ = byte (((wordAt pw last i).set (i % 4) ((wordAt pw last i).getD (i % 4) 0 ^^^ last.getD i 0)).getD (i % 4) 0)
             rw [set_getD _ _ _ (by rw [hwl];omega)])
           go_upto_region 13 with fail
           obtain ⟨wr1,hwr1⟩:∃ x,x = wr.setCell ⟨WB,m,none⟩ (.int .u8 (v2:Int)):=⟨_,rfl⟩
           rw [← hwr1] at hst' k3 k2 k1 kb ⊢
           clear hwr1 hst f4 f3 f2 f1 fbel hcv hfv hix
           have hcv:wr1.cell? ⟨WB,m,none⟩ = some (.int .u8 (v2:Int)):=by
             rw [map_cell hst' m (by rw [wordAt_length];omega)]
             have e:(Value.int .u8 (v2:Int)) = byte ((wordAt pw last (i + 1)).getD m 0):=by
               rw [HV.out,Hm.out]
               show _ = byte (((wordAt pw last i).set (i % 4) ((wordAt pw last i).getD (i % 4) 0 ^^^ last.getD i 0)).getD (i % 4) 0)
               rw [set_getD _ _ _ (by rw [hwl];omega)]
             rw [e]
             rfl
           have hf:=k3.free (r * 16 + i)
           obtain ⟨u,hu⟩:∃ u,wr1.cell? ⟨w.heap.size + 1 + 1 + 1,r * 16 + i,none⟩ = some u:=⟨_,k3.cell (r * 16 + i) (by rw [upTo_length];omega)⟩
           have kst:=k3.set (16 * r + i) (ksC key (16 * r + i))
           rw [upTo_set,← HN.out] at kst
           go_region
           go_wp2
           go_roundw
           case rel =>
             rw [show r * 16 + i = 16 * r + i from by omega]
             exact ⟨i + 1,by omega,by go_num,(hst'.other _ _ (by simp;omega)).drew1,by rw [show 16 * r + (i + 1) = 16 * r + i + 1 from by omega];exact kst.drew1,(k2.other _ _ (by simp)).drew1,(k1.other _ _ (by simp)).drew1,(kb.setCell (by simp;omega) _).drew⟩
           case measure=>simp [intOf];omega
         · obtain rfl:i = 16:=by omega
           have Hpow:Hid (((tXN pn:Nat):Int) = ((powB (r + 1 - 1)).toNat:Int)):=hid_of' (by
             rw [show r + 1 - 1 = r from rfl,Hq.out]
             show _ = ((tXB (powB q)).toNat:Int)
             rw [tXB_nat,← Hpw.out,Hpw2.out])
           go_wp2_with (go_at_call 165;refine (timesX_any pn _ pn8).mono ?_;rintro e w' ⟨rfl,hw'⟩;subst w')
           go_roundw
           case rel=>exact ⟨r + 1,by omega,by omega,by go_num,by rw [Hpow.out],by rw [show 16 * (r + 1) = 16 * r + 16 from by omega];exact f3,f2,f1,fbel⟩
           case measure=>simp [intOf];omega
   · obtain rfl:r = 11:=by omega
     rw [show 16 * 11 = 176 from rfl,upTo_all,ksC_all key hk] at hb3
     have hRl:((keysUpto key 11).map byte).length = 176:=by rw [List.length_map,keysUpto_length key hk]
     obtain ⟨R,hR⟩:∃ R,R = keysUpto key 11:=⟨_,rfl⟩
     rw [← hR] at hb3 hRl
     have HR:Hid (R = keysUpto key 11):=hR
     clear hR
     go_wp2_with (first | (refine load_blk rfl 90 _ rfl _ rfl hb3 Tryz.underlying90 rfl (by rw [hRl];kernel_rfl) ?_) | (refine store_blk rfl 90 _ _ rfl _ rfl rfl hb2 (by rw [hRl];kernel_rfl) (by rw [zerosOf_length,hRl]) (allOne_bytes _) ?_;intro w4 hb5 hg5 hs5))
     exact bodyPost_ret (v:=.agg (R.map byte).toArray) (results_blk Tryz.results133 _ _ rfl hb5 Tryz.underlying90 rfl (by rw [hRl];kernel_rfl)) rfl ⟨by rw [HR.out],hbel.grown hg5 hbel.size (by intro k hk;cases hk;omega)⟩
def fnS (S:Nat):Value:=.func (.func 167) #[] #[.pointer (some ⟨S,0,none⟩)]
def fnM (S:Nat):Value:=.func (.func 168) #[] #[.pointer (some ⟨S,0,none⟩)]
def aesCells (ks:List Value) (S1 S2 S3 S4:Nat):List Value:=ks ++ [fnS S1,fnS S2,fnM S3,fnM S4]
def zeroAes:List Value:=zerosOf 176 .u8 ++ [.nilFunc,.nilFunc,.nilFunc,.nilFunc]
theorem zeroAes_length:zeroAes.length = 180:=by unfold zeroAes;rw [List.length_append,zerosOf_length];rfl
theorem aesCells_length (ks:List Value) (S1 S2 S3 S4:Nat) (h:ks.length = 176):(aesCells ks S1 S2 S3 S4).length = 180:=by simp [aesCells,h]
theorem Tryz.zero93:(Tryz.prog.info? 93).map (fun i=>(i.zero,i.size)) = some (some (.agg zeroAes.toArray),180):=by kernel_rfl
theorem allOne_aes (l:List UInt8) (S1 S2 S3 S4:Nat):(aesCells (l.map byte) S1 S2 S3 S4).toArray.all (·.oneCell') = true:=by
 rw [Array.all_eq_true_iff_forall_mem]
 intro v hv
 simp only [aesCells,List.mem_toArray,List.mem_append] at hv
 rcases hv with hv | hv
 · exact (Array.all_eq_true_iff_forall_mem.1 (allOne_bytes l)) v (by simpa using hv)
 · simp only [List.mem_cons,List.not_mem_nil,or_false] at hv
   rcases hv with rfl | rfl | rfl | rfl <;> rfl
def aesPlaces:Array (Nat × Nat):=#[(0,176),(176,1),(177,1),(178,1),(179,1)]
theorem fill_aes (a cells:List Value) (f1 f2 f3 f4:Value) (h1:f1.cells = #[f1]) (h2:f2.cells = #[f2]) (h3:f3.cells = #[f3]) (h4:f4.cells = #[f4]) (ha:a.length = 176) (hc:cells.length = 180) :
   Instr.fill (fun i=>aesPlaces[i]?) cells.toArray [(0,.agg a.toArray),(1,f1),(2,f2),(3,f3),(4,f4)] = some (a ++ [f1,f2,f3,f4]).toArray:=by
 have e1:=fold_whole a 0 cells.toArray (by simp;omega)
 simp only [Nat.zero_add,List.take_zero,List.nil_append,ha] at e1
 have hd:(cells.drop 176).length = 4:=by rw [List.length_drop];omega
 obtain ⟨z0,z1,z2,z3,hz⟩:∃ z0 z1 z2 z3,cells.drop 176 = [z0,z1,z2,z3]:=by
   match cells.drop 176,hd with
   | [z0,z1,z2,z3],_=>exact ⟨z0,z1,z2,z3,rfl⟩
 rw [hz] at e1
 have p0:aesPlaces[0]? = some (0,176):=rfl
 have p1:aesPlaces[1]? = some (176,1):=rfl
 have p2:aesPlaces[2]? = some (177,1):=rfl
 have p3:aesPlaces[3]? = some (178,1):=rfl
 have p4:aesPlaces[4]? = some (179,1):=rfl
 have st:∀ (k:Nat) (x:Value) (l:List Value),((#[x]:Array Value).zipIdx.foldl (fun (cs:Array Value) (c:Value × Nat)=>cs.setIfInBounds (k + c.2) c.1) l.toArray) = (l.set k x).toArray:=by
   intro k x l;simp
 have s1:(a ++ [z0,z1,z2,z3]).set 176 f1 = a ++ [f1,z1,z2,z3]:=by rw [List.set_append_right _ _ (by omega),ha];rfl
 have s2:(a ++ [f1,z1,z2,z3]).set 177 f2 = a ++ [f1,f2,z2,z3]:=by rw [List.set_append_right _ _ (by omega),ha];rfl
 have s3:(a ++ [f1,f2,z2,z3]).set 178 f3 = a ++ [f1,f2,f3,z3]:=by rw [List.set_append_right _ _ (by omega),ha];rfl
 have s4:(a ++ [f1,f2,f3,z3]).set 179 f4 = a ++ [f1,f2,f3,f4]:=by rw [List.set_append_right _ _ (by omega),ha];rfl
 have e0:((Value.agg a.toArray).cells.zipIdx.foldl (fun (cs:Array Value) (c:Value × Nat)=>cs.setIfInBounds (0 + c.2) c.1) cells.toArray) = (a ++ [z0,z1,z2,z3]).toArray:=by
   show (a.toArray.zipIdx.foldl _ cells.toArray) = _
   rw [← Array.foldl_toList,Array.toList_zipIdx]
   simpa using e1
 have ca:(Value.agg a.toArray).cells.size = 176:=by show a.toArray.size = 176;simpa using ha
 simp only [Instr.fill,p0,p1,p2,p3,p4]
 rw [if_neg (by rw [ca];simp;omega),e0]
 rw [h1,h2,h3,h4]
 rw [if_neg (by simp [ha]),st,s1,if_neg (by simp [ha]),st,s2,if_neg (by simp [ha]),st,s3,if_neg (by simp [ha]),st,s4]
theorem aes_places (parts:List (Nat × Value)):Tryz.prog.built 93 parts = Instr.fill (fun i=>aesPlaces[i]?) zeroAes.toArray parts:=by kernel_rfl
theorem built_aes (a:List Value) (S1 S2 S3 S4:Nat) (ha:a.length = 176):Tryz.prog.built 93 [(0,.agg a.toArray),(1,fnS S1),(2,fnS S2),(3,fnM S3),(4,fnM S4)] = some (aesCells a S1 S2 S3 S4).toArray:=by
 rw [aes_places]
 exact fill_aes a zeroAes (fnS S1) (fnS S2) (fnM S3) (fnM S4) rfl rfl rfl rfl ha zeroAes_length
theorem wp_build_to {P:Program} {op:Oper} {a:Act} {w:World} {K:Act → World → Prop} {Q:Exit → Act → World → Prop} (d:Option Tmp) (hd:op.dst = d) (t:TypeId) (parts:Array (Nat × Operand)) (ho:op.op = .build t parts) (cs:List Value)
   (hf:P.built t (parts.map fun (i,x)=>(i,a.eval x)).toList = some cs.toArray) (h:K (a.put d (.agg cs.toArray)) w):op.wp P a w K Q:=by
 subst hd
 exact wp_build t parts ho (by rw [hf];rfl) (by rw [hf];exact h)
set_option maxRecDepth 100000 in
set_option maxHeartbeats 2000000 in
theorem newAes_any (key:List UInt8) (w:World) (hk:key.length = 16) :
   Calls Tryz.prog 76 #[.agg (key.map byte).toArray] w fun e w'=>∃ S1 S2 S3 S4,e = .returned (.agg (aesCells ((keysUpto key 11).map byte) S1 S2 S3 S4).toArray) ∧ Blk w' S1 240 (subTab.map byte) ∧ Blk w' S2 240 (invTab.map byte) ∧ Blk w' S3 247 (tabCells mixT) ∧ Blk w' S4 247 (tabCells unmixT) ∧ Below w.heap.size w w':=by
 have hz:=(zero_of_info Tryz.zero93).1
 have hz2:=(zero_of_info Tryz.zero240).1
 have hkl:(key.map byte).length = 16:=by rw [List.length_map,hk]
 have hsl:(subTab.map byte).length = 256:=by rw [List.length_map,subTab_length]
 have hks:((keysUpto key 11).map byte).length = 176:=by rw [List.length_map,keysUpto_length key hk]
 go_enter Tryz.func76,Tryz.ntmps76
 go_wp2_with (first
   | (go_at_call 132;refine (subTable_any _).mono ?_;rintro e w1 ⟨rfl,bel1⟩)
   | (refine store_blk rfl 240 _ _ rfl _ rfl rfl (Blk.new w1 _ _) (by rw [hsl];kernel_rfl) (by rw [zerosOf_length,hsl]) (allOne_bytes _) ?_;intro V KS hg2 hs2))
 have z1:=bel1.size
 simp only [World.size_alloc] at z1
 have K0:Blk V w.heap.size 88 (key.map byte):=(((((Blk.new w _ _).alloc _).below bel1 (by simp;omega)).alloc _)).grown hg2 (by simp;omega)
 have K1:Blk V (w.heap.size + 1) 93 zeroAes:=((((Blk.new2 w _ _ _).below bel1 (by simp)).alloc _)).grown hg2 (by simp;omega)
 have bV:Below w.heap.size w V:=(((((Below.refl _ _).alloc (Nat.le_refl _) _).alloc (by simp) _).trans (bel1.mono (by simp;omega))).alloc (by omega) _).grown hg2 (by simp;omega) (by intro k hk;cases hk;omega)
 obtain ⟨GS,hGS⟩:∃ n,n = w1.heap.size:=⟨_,rfl⟩
 rw [← hGS] at KS z1 ⊢
 have zV:GS < V.heap.size:=KS.lt
 clear hg2 hs2 bel1 hz hz2 hGS
 have keep:Hid (∀ {w'},Below V.heap.size V w' → w'.rangeAt w.heap.size 0 (key.map byte) ∧ w'.rangeAt GS 0 (subTab.map byte)):=fun h=>⟨blk_whole (K0.below h K0.lt),blk_whole (KS.below h KS.lt)⟩
 dsimp only [Act.put]
 refine wp_region_held_drew (S:=fun w'=>w'.rangeAt w.heap.size 0 (key.map byte) ∧ w'.rangeAt GS 0 (subTab.map byte)) (by kernel_rfl) (keep.out (Below.refl _ _).drew) (fun hHeld=>?_)
 refine tk (i:=0) (v:=.agg (key.map byte).toArray) rfl (yieldsIf_load_mid (by rfl) 88 _ rfl w.heap.size 0 rfl (key.map byte) _ (fun _ h=>h.1) Tryz.underlying88 rfl (by rw [hkl];kernel_rfl)) hHeld ?_
 try dsimp only [Act.put]
 refine tk (i:=1) (v:=.agg (subTab.map byte).toArray) rfl (yieldsIf_load_mid (by rfl) 240 _ rfl GS 0 rfl (subTab.map byte) _ (fun _ h=>h.2) Tryz.underlying240 rfl (by rw [hsl];kernel_rfl)) hHeld ?_
 try dsimp only [Act.put]
 refine tk (i:=3) (v:=.agg (subTab.map byte).toArray) rfl (yieldsIf_load_mid (by rfl) 240 _ rfl GS 0 rfl (subTab.map byte) _ (fun _ h=>h.2) Tryz.underlying240 rfl (by rw [hsl];kernel_rfl)) hHeld ?_
 try dsimp only [Act.put]
 refine tk (i:=5) (v:=.agg (subTab.map byte).toArray) rfl (yieldsIf_load_mid (by rfl) 240 _ rfl GS 0 rfl (subTab.map byte) _ (fun _ h=>h.2) Tryz.underlying240 rfl (by rw [hsl];kernel_rfl)) hHeld ?_
 try dsimp only [Act.put]
 refine tk (i:=8) (v:=.agg (subTab.map byte).toArray) rfl (yieldsIf_load_mid (by rfl) 240 _ rfl GS 0 rfl (subTab.map byte) _ (fun _ h=>h.2) Tryz.underlying240 rfl (by rw [hsl];kernel_rfl)) hHeld ?_
 try dsimp only [Act.put]
 refine rdy1 2 (fun K hK=>?_)
 go_simp
 refine (aesKeys_any key _ hk).mono ?_
 rintro e w_1 ⟨rfl,bel_1⟩
 have key_1:=K0.drew1.below bel_1 K0.drew1.lt
 have sub_1:=KS.drew1.below bel_1 KS.drew1.lt
 have res_1:=K1.drew1.below bel_1 K1.drew1.lt
 have b_1:=below_step (Below.refl V.heap.size V).drew bel_1
 have zz_1:=b_1.size
 go_wp2_with fail
 refine hK.out _ _ (keep.out b_1) (fun hHeld=>?_)
 clear hK K
 try dsimp only [Act.put]
 refine rdy1 4 (fun K hK=>?_)
 go_simp
 refine (byteChanger_any subTab _).mono ?_
 rintro e w_2 ⟨Sfa_2,rfl,lfa_2,kfa_2,bel_2⟩
 have key_2:=key_1.below bel_2 key_1.lt
 have sub_2:=sub_1.below bel_2 sub_1.lt
 have res_2:=res_1.below bel_2 res_1.lt
 have b_2:=below_step b_1 bel_2
 have zfa_2:=b_2.size
 go_wp2_with fail
 refine hK.out _ _ (keep.out b_2) (fun hHeld=>?_)
 clear hK K
 try dsimp only [Act.put]
 refine rdy1 6 (fun K hK=>?_)
 go_simp
 refine (inverseOf_any _).mono ?_
 rintro e w_3 ⟨rfl,bel_3⟩
 have key_3:=key_2.below bel_3 key_2.lt
 have sub_3:=sub_2.below bel_3 sub_2.lt
 have res_3:=res_2.below bel_3 res_2.lt
 have fa_3:=kfa_2.below bel_3 kfa_2.lt
 have b_3:=below_step b_2 bel_3
 have zz_3:=b_3.size
 go_wp2_with fail
 refine hK.out _ _ (keep.out b_3) (fun hHeld=>?_)
 clear hK K
 try dsimp only [Act.put]
 refine rdy1 7 (fun K hK=>?_)
 go_simp
 refine (byteChanger_any invTab _).mono ?_
 rintro e w_4 ⟨Sfb_4,rfl,lfb_4,kfb_4,bel_4⟩
 have key_4:=key_3.below bel_4 key_3.lt
 have sub_4:=sub_3.below bel_4 sub_3.lt
 have res_4:=res_3.below bel_4 res_3.lt
 have fa_4:=fa_3.below bel_4 fa_3.lt
 have b_4:=below_step b_3 bel_4
 have zfb_4:=b_4.size
 go_wp2_with fail
 refine hK.out _ _ (keep.out b_4) (fun hHeld=>?_)
 clear hK K
 try dsimp only [Act.put]
 refine rdy1 9 (fun K hK=>?_)
 go_simp
 refine (mixTable_any _).mono ?_
 rintro e w_5 ⟨rfl,bel_5⟩
 have key_5:=key_4.below bel_5 key_4.lt
 have sub_5:=sub_4.below bel_5 sub_4.lt
 have res_5:=res_4.below bel_5 res_4.lt
 have fa_5:=fa_4.below bel_5 fa_4.lt
 have fb_5:=kfb_4.below bel_5 kfb_4.lt
 have b_5:=below_step b_4 bel_5
 have zz_5:=b_5.size
 go_wp2_with fail
 refine hK.out _ _ (keep.out b_5) (fun hHeld=>?_)
 clear hK K
 try dsimp only [Act.put]
 refine rdy1 10 (fun K hK=>?_)
 go_simp
 refine (columnMixer_any mixT _).mono ?_
 rintro e w_6 ⟨Sfc_6,rfl,lfc_6,kfc_6,bel_6⟩
 have key_6:=key_5.below bel_6 key_5.lt
 have sub_6:=sub_5.below bel_6 sub_5.lt
 have res_6:=res_5.below bel_6 res_5.lt
 have fa_6:=fa_5.below bel_6 fa_5.lt
 have fb_6:=fb_5.below bel_6 fb_5.lt
 have b_6:=below_step b_5 bel_6
 have zfc_6:=b_6.size
 go_wp2_with fail
 refine hK.out _ _ (keep.out b_6) (fun hHeld=>?_)
 clear hK K
 try dsimp only [Act.put]
 refine rdy1 11 (fun K hK=>?_)
 go_simp
 refine (unmixTable_any _).mono ?_
 rintro e w_7 ⟨rfl,bel_7⟩
 have key_7:=key_6.below bel_7 key_6.lt
 have sub_7:=sub_6.below bel_7 sub_6.lt
 have res_7:=res_6.below bel_7 res_6.lt
 have fa_7:=fa_6.below bel_7 fa_6.lt
 have fb_7:=fb_6.below bel_7 fb_6.lt
 have fc_7:=kfc_6.below bel_7 kfc_6.lt
 have b_7:=below_step b_6 bel_7
 have zz_7:=b_7.size
 go_wp2_with fail
 refine hK.out _ _ (keep.out b_7) (fun hHeld=>?_)
 clear hK K
 try dsimp only [Act.put]
 refine rdy1 12 (fun K hK=>?_)
 go_simp
 refine (columnMixer_any unmixT _).mono ?_
 rintro e w_8 ⟨Sfd_8,rfl,lfd_8,kfd_8,bel_8⟩
 have key_8:=key_7.below bel_8 key_7.lt
 have sub_8:=sub_7.below bel_8 sub_7.lt
 have res_8:=res_7.below bel_8 res_7.lt
 have fa_8:=fa_7.below bel_8 fa_7.lt
 have fb_8:=fb_7.below bel_8 fb_7.lt
 have fc_8:=fc_7.below bel_8 fc_7.lt
 have b_8:=below_step b_7 bel_8
 have zfd_8:=b_8.size
 go_wp2_with fail
 refine hK.out _ _ (keep.out b_8) (fun hHeld=>?_)
 clear hK K
 try dsimp only [Act.put]
 refine rdy1 13 (fun K hK=>?_)
 rw [if_pos (by rfl)]
 refine wp_build_to (some 18) rfl 93 _ rfl (aesCells ((keysUpto key 11).map byte) Sfa_2 Sfb_4 Sfc_6 Sfd_8) ((congrArg (Tryz.prog.built 93) (show _ = [(0,.agg ((keysUpto key 11).map byte).toArray),(1,fnS Sfa_2),(2,fnS Sfb_4),(3,fnM Sfc_6),(4,fnM Sfd_8)] by kernel_rfl)).trans (built_aes _ _ _ _ _ hks)) ?_
 try dsimp only [Act.put]
 refine hK.out _ _ (keep.out b_8) (fun hHeld=>?_)
 clear hK K
 try dsimp only [Act.put]
 refine rdy1 14 (fun K hK=>?_)
 rw [if_pos (by rfl)]
 have hcl:=aesCells_length ((keysUpto key 11).map byte) Sfa_2 Sfb_4 Sfc_6 Sfd_8 hks
 refine wp_store_blk rfl 93 _ _ rfl (w.heap.size + 1) rfl rfl res_8 (by rw [hcl];kernel_rfl) (by rw [hcl];exact zeroAes_length) (allOne_aes _ _ _ _ _) ?_
 refine hK.out _ _ ⟨blk_whole (Blk.setRow_other key_8 (by omega)),blk_whole (Blk.setRow_other sub_8 (by omega))⟩ (fun hHeld=>?_)
 clear hK K
 try dsimp only [Act.put]
 refine wpAnyH_done (by kernel_rfl) ?_ _
 go_wp2_with fail
 exact bodyPost_ret (v:=.agg (aesCells ((keysUpto key 11).map byte) Sfa_2 Sfb_4 Sfc_6 Sfd_8).toArray) (results_blk Tryz.results76 _ _ rfl (Blk.setRow res_8 _) Tryz.underlying93 rfl (by rw [hcl];kernel_rfl)) rfl ⟨Sfa_2,Sfb_4,Sfc_6,Sfd_8,rfl,Blk.setRow_other fa_8 (by omega),Blk.setRow_other fb_8 (by omega),Blk.setRow_other fc_8 (by omega),Blk.setRow_other kfd_8 (by omega),below_setRow' (g:=w.heap.size + 1) (bV.trans (b_8.mono bV.size)) (by omega) _⟩
end Go.Proofs.YtbkokcjolanpeaaGreatDoor
