import Derived.Test.YtbkokcjolanpeaaGreatDoorRgAB
import Derived.Shelf.Strconv.Itoa3
import Derived.Shelf.LaysM
import Derived.Shelf.Strings.BuilderK
import Derived.Shelf.Strings.Repeat
import Derived.Test.YtbkokcjolanpeaaGreatDoorProg
import Derived.Laws.AppendOwn
import Derived.Lib.AppendStr
import Derived.Laws.OwnMore
import Derived.Lib.ConvBytes
namespace Go.Proofs
open Go.Shelf
def Tryz.laysM171_ren:Go.Shelf.Ren:=⟨fun | 171=>154 | 243=>183 | 246=>217 | 283=>235 | 284=>236 | 285=>237 | 286=>238 | 129=>260 | 317=>259 | 318=>261 | 319=>262 | 320=>263 | 337=>270 | 338=>271 | n=>n,fun | 3=>3 | 9=>9 | 2=>2 | 4=>4 | 171=>349 | 0=>0 | 53=>198 | 37=>22 | 5=>5 | 173=>352 | 212=>370 | 51=>246 | 20=>20 | 213=>371 | 46=>103 | 232=>356 | 233=>294 | n=>n,fun | 17=>5 | 18=>8 | 19=>9 | n=>n⟩
theorem Tryz.laysM171:Go.Proofs.LaysM.n171 Tryz.prog Tryz.laysM171_ren:={
 mixed:=by kernel_rfl
 f129:=Tryz.func260.trans (congrArg some (by kernel_rfl))
 f171:=Tryz.func154.trans (congrArg some (by kernel_rfl))
 f243:=Tryz.func183.trans (congrArg some (by kernel_rfl))
 f246:=Tryz.func217.trans (congrArg some (by kernel_rfl))
 f283:=Tryz.func235.trans (congrArg some (by kernel_rfl))
 f284:=Tryz.func236.trans (congrArg some (by kernel_rfl))
 f285:=Tryz.func237.trans (congrArg some (by kernel_rfl))
 f286:=Tryz.func238.trans (congrArg some (by kernel_rfl))
 f317:=Tryz.func259.trans (congrArg some (by kernel_rfl))
 f318:=Tryz.func261.trans (congrArg some (by kernel_rfl))
 f319:=Tryz.func262.trans (congrArg some (by kernel_rfl))
 f320:=Tryz.func263.trans (congrArg some (by kernel_rfl))
 f337:=Tryz.func270.trans (congrArg some (by kernel_rfl))
 f338:=Tryz.func271.trans (congrArg some (by kernel_rfl))
 t0:=Tryz.underlying0
 a0:=Tryz.isAgg0
 z0:=Tryz.sizeOf0
 v0:=Tryz.zeroValue0
 t2:=Tryz.underlying2
 a2:=Tryz.isAgg2
 z2:=Tryz.sizeOf2
 v2:=Tryz.zeroValue2
 t3:=Tryz.underlying3
 a3:=Tryz.isAgg3
 z3:=Tryz.sizeOf3
 v3:=Tryz.zeroValue3
 t4:=Tryz.underlying4
 a4:=Tryz.isAgg4
 z4:=Tryz.sizeOf4
 v4:=Tryz.zeroValue4
 t5:=Tryz.underlying5
 a5:=Tryz.isAgg5
 z5:=Tryz.sizeOf5
 v5:=Tryz.zeroValue5
 t9:=Tryz.underlying9
 a9:=Tryz.isAgg9
 z9:=Tryz.sizeOf9
 v9:=Tryz.zeroValue9
 t20:=Tryz.underlying20
 a20:=Tryz.isAgg20
 z20:=Tryz.sizeOf20
 v20:=Tryz.zeroValue20
 t37:=Tryz.underlying22
 a37:=Tryz.isAgg22
 z37:=Tryz.sizeOf22
 v37:=Tryz.zeroValue22
 t46:=Tryz.underlying103
 a46:=Tryz.isAgg103
 z46:=Tryz.sizeOf103
 v46:=Tryz.zeroValue103
 t51:=Tryz.underlying246
 a51:=Tryz.isAgg246
 z51:=Tryz.sizeOf246
 v51:=Tryz.zeroValue246
 t53:=Tryz.underlying198
 a53:=Tryz.isAgg198
 z53:=Tryz.sizeOf198
 v53:=Tryz.zeroValue198
 t171:=Tryz.underlying349
 a171:=Tryz.isAgg349
 z171:=Tryz.sizeOf349
 v171:=Tryz.zeroValue349
 t173:=Tryz.underlying352
 a173:=Tryz.isAgg352
 z173:=Tryz.sizeOf352
 v173:=Tryz.zeroValue352
 t212:=Tryz.underlying370
 a212:=Tryz.isAgg370
 z212:=Tryz.sizeOf370
 v212:=Tryz.zeroValue370
 t213:=Tryz.underlying371
 a213:=Tryz.isAgg371
 z213:=Tryz.sizeOf371
 t232:=Tryz.underlying356
 a232:=Tryz.isAgg356
 z232:=Tryz.sizeOf356
 v232:=Tryz.zeroValue356
 t233:=Tryz.underlying294
 a233:=Tryz.isAgg294
 z233:=Tryz.sizeOf294
 v233:=Tryz.zeroValue294
 g17:=by kernel_rfl
 g18:=by kernel_rfl
 g19:=by kernel_rfl
 i0:=by kernel_rfl
 i2:=by kernel_rfl
 i3:=by kernel_rfl
 i4:=by kernel_rfl
 i5:=by kernel_rfl
 i9:=by kernel_rfl
 i20:=by kernel_rfl
 i37:=by kernel_rfl
 i46:=by kernel_rfl
 i51:=by kernel_rfl
 i53:=by kernel_rfl
 i171:=by kernel_rfl
 i173:=by kernel_rfl
 i212:=by kernel_rfl
 i232:=by kernel_rfl
 i233:=by kernel_rfl
 m17:=by kernel_rfl
 m18:=by kernel_rfl
 m19:=by kernel_rfl }
open Go.RowKit Go.Sort Go.Lib in
theorem Tryz.strconv_Itoa (n:Int) (h0:-9223372036854775808 ≤ n) (h1:n ≤ 9223372036854775807) (w:World) (htab:Lib.TabIs Tryz.prog w "internal/strconv.uint64pow10" .u64 Lib.pow10Tab) :
   Calls Tryz.prog 154 #[.int .i64 n] w fun e w'=>e = .returned (.string ⟨(Lib.itoa n).toArray⟩) ∧ ∃ k os,w' = grow (w.drewN k) os:=Any.strconv_Itoa Tryz.laysM171 n h0 h1 w htab
def Tryz.lays105_ren:Go.Shelf.Ren:=⟨fun | 105=>155 | 212=>184 | 99=>162 | 165=>185 | 166=>186 | 170=>187 | 169=>188 | 263=>218 | 264=>219 | 206=>198 | 240=>220 | 241=>221 | 276=>239 | 277=>240 | n=>n,fun | 9=>9 | 3=>3 | 4=>4 | 20=>20 | 0=>0 | 46=>103 | 109=>284 | 5=>5 | 72=>288 | 76=>282 | 51=>246 | 146=>314 | 53=>198 | 148=>316 | 70=>286 | 37=>22 | 75=>75 | 127=>318 | 164=>354 | 80=>289 | n=>n,fun | n=>n⟩
theorem Tryz.lays105:Go.Proofs.Lays.n105 Tryz.prog Tryz.lays105_ren:={
 mixed:=by kernel_rfl
 f99:=Tryz.func162.trans (congrArg some (by kernel_rfl))
 f105:=Tryz.func155.trans (congrArg some (by kernel_rfl))
 f165:=Tryz.func185.trans (congrArg some (by kernel_rfl))
 f166:=Tryz.func186.trans (congrArg some (by kernel_rfl))
 f169:=Tryz.func188.trans (congrArg some (by kernel_rfl))
 f170:=Tryz.func187.trans (congrArg some (by kernel_rfl))
 f206:=Tryz.func198.trans (congrArg some (by kernel_rfl))
 f212:=Tryz.func184.trans (congrArg some (by kernel_rfl))
 f240:=Tryz.func220.trans (congrArg some (by kernel_rfl))
 f241:=Tryz.func221.trans (congrArg some (by kernel_rfl))
 f263:=Tryz.func218.trans (congrArg some (by kernel_rfl))
 f264:=Tryz.func219.trans (congrArg some (by kernel_rfl))
 f276:=Tryz.func239.trans (congrArg some (by kernel_rfl))
 f277:=Tryz.func240.trans (congrArg some (by kernel_rfl))
 t0:=Tryz.underlying0
 a0:=Tryz.isAgg0
 z0:=Tryz.sizeOf0
 v0:=Tryz.zeroValue0
 t3:=Tryz.underlying3
 a3:=Tryz.isAgg3
 z3:=Tryz.sizeOf3
 v3:=Tryz.zeroValue3
 t4:=Tryz.underlying4
 a4:=Tryz.isAgg4
 z4:=Tryz.sizeOf4
 v4:=Tryz.zeroValue4
 t5:=Tryz.underlying5
 a5:=Tryz.isAgg5
 z5:=Tryz.sizeOf5
 v5:=Tryz.zeroValue5
 t9:=Tryz.underlying9
 a9:=Tryz.isAgg9
 z9:=Tryz.sizeOf9
 v9:=Tryz.zeroValue9
 t20:=Tryz.underlying20
 a20:=Tryz.isAgg20
 z20:=Tryz.sizeOf20
 v20:=Tryz.zeroValue20
 t37:=Tryz.underlying22
 a37:=Tryz.isAgg22
 z37:=Tryz.sizeOf22
 v37:=Tryz.zeroValue22
 t46:=Tryz.underlying103
 a46:=Tryz.isAgg103
 z46:=Tryz.sizeOf103
 v46:=Tryz.zeroValue103
 t51:=Tryz.underlying246
 a51:=Tryz.isAgg246
 z51:=Tryz.sizeOf246
 v51:=Tryz.zeroValue246
 t53:=Tryz.underlying198
 a53:=Tryz.isAgg198
 z53:=Tryz.sizeOf198
 v53:=Tryz.zeroValue198
 t70:=Tryz.underlying286
 a70:=Tryz.isAgg286
 z70:=Tryz.sizeOf286
 v70:=Tryz.zeroValue286
 t72:=Tryz.underlying288
 a72:=Tryz.isAgg288
 z72:=Tryz.sizeOf288
 v72:=Tryz.zeroValue288
 t75:=Tryz.underlying75
 a75:=Tryz.isAgg75
 z75:=Tryz.sizeOf75
 v75:=Tryz.zeroValue75
 t76:=Tryz.underlying282
 a76:=Tryz.isAgg282
 z76:=Tryz.sizeOf282
 v76:=Tryz.zeroValue282
 t109:=Tryz.underlying284
 a109:=Tryz.isAgg284
 z109:=Tryz.sizeOf284
 v109:=Tryz.zeroValue284
 t127:=Tryz.underlying318
 a127:=Tryz.isAgg318
 z127:=Tryz.sizeOf318
 v127:=Tryz.zeroValue318
 t146:=Tryz.underlying314
 a146:=Tryz.isAgg314
 z146:=Tryz.sizeOf314
 v146:=Tryz.zeroValue314
 t148:=Tryz.underlying316
 a148:=Tryz.isAgg316
 z148:=Tryz.sizeOf316
 v148:=Tryz.zeroValue316
 t164:=Tryz.underlying354
 a164:=Tryz.isAgg354
 z164:=Tryz.sizeOf354
 v164:=Tryz.zeroValue354 }
theorem Tryz.Builder_Extra_105:Builder.Extra Tryz.prog Tryz.lays105_ren:={
 sizeBuilder:=by kernel_rfl
 liesBuilder:=by kernel_rfl
 t5:=Tryz.underlying5
 a5:=Tryz.isAgg5
 z5:=Tryz.sizeOf5
 v5:=Tryz.zeroValue5
 infoByte:=by kernel_rfl
 cellsByte:=by kernel_rfl
 sizeByte:=by kernel_rfl
 neB5:=by decide }
open Go.RowKit Go.Lib in
theorem Tryz.strings_Repeat (s:ByteArray) (c:Nat) (w:World) (hc:c ≤ 9223372036854775807) (hlen:s.size * c ≤ 140737488355328) :
   Calls Tryz.prog 155 #[.string s,.int .i64 c] w fun e w'=>e = .returned (.string ⟨(Lib.repeatL s.data.toList c).toArray⟩) ∧ Below w.heap.size w w':=Any.strings_Repeat Tryz.lays105 Tryz.Builder_Extra_105 s c w hc hlen
end Go.Proofs
namespace Go.Proofs.YtbkokcjolanpeaaGreatDoor
open Go.RowKit
def padL:Nat → Nat → List UInt8
 | 0,_=>[]
 | d + 1,n=>padL d (n / 10) ++ [UInt8.ofNat (48 + n % 10)]
theorem padL_length:∀ d n,(padL d n).length = d
 | 0,_=>rfl
 | d + 1,n=>by unfold padL;rw [List.length_append,padL_length d];rfl
theorem repeat_snoc (c:Nat):Lib.repeatL [48] (c + 1) = Lib.repeatL [48] c ++ [48]:=by
 induction c with
 | zero=>rfl
 | succ c ih=>show 48 :: Lib.repeatL [48] (c + 1) = 48 :: (Lib.repeatL [48] c ++ [48]);rw [ih]
theorem padL_zero:∀ d,padL d 0 = Lib.repeatL [48] d
 | 0=>rfl
 | d + 1=>by unfold padL;rw [show 0 / 10 = 0 from rfl,padL_zero d,repeat_snoc];rfl
theorem pad_eq:∀ d n,n < 10 ^ (d + 1) → (Lib.decDigits n).length ≤ d + 1 ∧ Lib.repeatL [48] (d + 1 - (Lib.decDigits n).length) ++ Lib.decDigits n = padL (d + 1) n:=by
 intro d
 induction d with
 | zero =>
   intro n hn
   have h:n < 10:=by simpa using hn
   rw [Lib.decDigits,dif_pos h]
   refine ⟨Nat.le_refl _,?_⟩
   show [] ++ _ = padL 0 (n / 10) ++ [UInt8.ofNat (48 + n % 10)]
   rw [Nat.mod_eq_of_lt h]
   rfl
 | succ d ih =>
   intro n hn
   by_cases h:n < 10
   · rw [Lib.decDigits,dif_pos h]
     refine ⟨by simp,?_⟩
     show Lib.repeatL [48] (d + 1) ++ [UInt8.ofNat (48 + n)] = padL (d + 1) (n / 10) ++ [UInt8.ofNat (48 + n % 10)]
     rw [Nat.mod_eq_of_lt h,Nat.div_eq_of_lt h,padL_zero]
   · have h2:n / 10 < 10 ^ (d + 1):=by rw [Nat.pow_succ] at hn;omega
     obtain ⟨i1,i2⟩:=ih (n / 10) h2
     rw [Lib.decDigits,dif_neg h,List.length_append]
     refine ⟨by simp;omega,?_⟩
     show _ = padL (d + 1) (n / 10) ++ [UInt8.ofNat (48 + n % 10)]
     rw [← i2,← List.append_assoc]
     congr 2
     simp
set_option maxRecDepth 100000 in
set_option maxHeartbeats 1000000 in
theorem inDigits_any (N d:Nat) (w:World) (htab:Lib.TabIs Tryz.prog w "internal/strconv.uint64pow10" .u64 Lib.pow10Tab) (hd:d ≤ 6) (hN:N < 10 ^ (d + 1)) :
   Calls Tryz.prog 103 #[.int .i64 (N:Int),.int .i64 ((d + 1:Nat):Int)] w fun e w'=>e = .returned (.string ⟨(padL (d + 1) N).toArray⟩) ∧ Below w.heap.size w w':=by
 obtain ⟨p1,p2⟩:=pad_eq d N hN
 have hNb:N < 10000000:=Nat.lt_of_lt_of_le hN (Nat.le_trans (Nat.pow_le_pow_right (by omega) (show d + 1 ≤ 7 by omega)) (Nat.le_refl _))
 have HI:=hideT (Tryz.strconv_Itoa (N:Int) (by omega) (by omega) w htab)
 have eit:Lib.itoa (N:Int) = Lib.decDigits N:=by unfold Lib.itoa;rw [if_neg (by omega)];rfl
 rw [eit] at HI
 obtain ⟨dd,hdd⟩:∃ l,l = Lib.decDigits N:=⟨_,rfl⟩
 rw [← hdd] at HI p1 p2
 have HRP:=hideT (fun (wx:World)=>Tryz.strings_Repeat ⟨#[48]⟩ (d + 1 - dd.length) wx (by omega) (by show 1 * _ ≤ _;omega))
 obtain ⟨cz,hcz⟩:∃ c,c = d + 1 - dd.length:=⟨_,rfl⟩
 rw [← hcz] at HRP p2
 have hsz:(⟨dd.toArray⟩:ByteArray).size = dd.length:=by simp [ByteArray.size]
 have hwr:IntKind.i64.wrap (((d + 1:Nat):Int) - ((⟨dd.toArray⟩:ByteArray).size:Int)) = (cz:Int):=by rw [hsz,IntKind.wrap_i64];omega
 obtain ⟨D1,hD1⟩:∃ m,m = d + 1:=⟨_,rfl⟩
 rw [← hD1] at hwr p2 ⊢
 have hD3:D1 ≤ 7:=by omega
 have HP:=hideT p2
 obtain ⟨S,hS⟩:∃ s:ByteArray,s = ⟨dd.toArray⟩:=⟨_,rfl⟩
 rw [← hS] at HI hwr
 have HS:=hideT hS
 clear hdd hcz hsz hD1 hS p1 p2 eit htab
 go_enter Tryz.func103,Tryz.ntmps103
 go_wp2_with fail
 refine HI.out.mono ?_
 rintro e w1 ⟨rfl,k1,os1,hw1⟩
 have b1:Below w.heap.size w w1:=by
   rw [hw1]
   exact ⟨rfl,rfl,rfl,by show w.heap.size ≤ (w.heap ++ os1).size;simp,fun j hj=>by show (w.heap ++ os1)[j]? = w.heap[j]?;rw [Array.getElem?_append_left hj]⟩
 clear hw1 HI
 obtain ⟨A,hA⟩:∃ s:ByteArray,s = ⟨(Lib.repeatL [48] cz).toArray⟩:=⟨_,rfl⟩
 rw [← hA] at HRP
 have hAS:A ++ S = ⟨(padL D1 N).toArray⟩:=by
   rw [hA,show S = _ from HS,← show _ = padL D1 N from HP]
   apply ByteArray.ext
   simp
 have hsum:A.size + S.size ≤ 9223372036854775807:=by
   have h:=congrArg ByteArray.size hAS
   have h2:(⟨(padL D1 N).toArray⟩:ByteArray).size = D1:=by rw [show (⟨(padL D1 N).toArray⟩:ByteArray).size = (padL D1 N).length from by simp [ByteArray.size],padL_length]
   rw [h2,ByteArray.size_append] at h
   omega
 have HAS:=hideT hAS
 clear hA hAS
 have hsr:=fun (wx:World)=>run_string_add_sum (P:=Tryz.prog) wx A S hsum
 go_wp2_with fail
 refine (HRP.out _).mono ?_
 rintro e w2 ⟨rfl,b2⟩
 have b12:=b1.trans (b2.mono b1.size)
 go_wp2_with fail
 go_ret
 exact ⟨by rw [← show A ++ S = _ from HAS];rfl,b12⟩
set_option maxRecDepth 100000 in
set_option maxHeartbeats 1000000 in
theorem lengthOf_any {T:Nat} {x r:Value} {FE d l m:Nat} {ok:UInt8 → Bool} {sz:List UInt8 → Nat} {sd:List UInt8 → Bool} (K:Kd T x r FE d l m ok sz sd) (N:Nat) (ao:Option Addr) (cap:Nat) (w:World) (hT:∀ w',Below w.heap.size w w' → Lib.TabIs Tryz.prog w' "internal/strconv.uint64pow10" .u64 Lib.pow10Tab) (hN:N < 10 ^ d ∨ d = 0) :
   Calls Tryz.prog 55 #[.iface T x,.slice ao N cap] w fun e w'=>e = .returned (.string ⟨(padL d N).toArray⟩) ∧ Below w.heap.size w w':=by
 have mE:=K.mE
 have cF:=K.cF
 have HE:=hideT K.HE
 have hd3:=K.d3
 have hfd:=fun (wx:World)=>(show (Instr.field 193 (.agg #[.int .i64 (d:Int),.int .i64 (l:Int),.int .i64 (m:Int)]) 0).run Tryz.prog wx = .ok (.int .i64 (d:Int)) wx by kernel_rfl)
 have HTT:=hideT hT
 clear hT
 by_cases h0:d = 0
 · have hdb:((d:Int) == 0) = true:=by rw [beq_iff_eq];omega
   have HP0:Hid (padL d N = []):=by rw [h0];exact (rfl:padL 0 N = [])
   clear h0 hN hd3
   go_enter Tryz.func55,Tryz.ntmps55
   go_wp2_with fail
   refine (HE.out _).mono ?_
   rintro e w1 ⟨rfl,b1⟩
   go_wp2_with fail
   go_ret
   exact ⟨by rw [HP0.out];rfl,b1⟩
 · have h0I:¬ (d:Int) = 0:=by omega
   have HD:=hideT (fun (wx:World) (h:Below w.heap.size w wx)=>inDigits_any N (d - 1) wx (HTT.out wx h) (by omega) (by rw [show d - 1 + 1 = d from by omega];omega))
   rw [show d - 1 + 1 = d from by omega] at HD
   clear hN h0
   go_enter Tryz.func55,Tryz.ntmps55
   go_wp2_with fail
   refine (HE.out _).mono ?_
   rintro e w1 ⟨rfl,b1⟩
   go_wp2_with fail
   refine (HD.out _ b1).mono ?_
   rintro e w2 ⟨rfl,b2⟩
   go_wp2_with fail
   go_ret
   exact ⟨rfl,b1.trans (b2.mono b1.size)⟩
set_option maxHeartbeats 1000000 in
theorem indexF_neg (no:Int) (hneg:no < 0) (g gb:Nat) (w:World) (kT:Blk w g 118 tabCellsI) (hb:w.cell? ⟨gb,0,none⟩ = some (.int .i64 no)) :
   Calls Tryz.prog 100 #[.slice (some ⟨g,0,none⟩) 14 14,.func (Fn.func 101) #[] #[.pointer (some ⟨gb,0,none⟩)]] w fun e w'=>e = .returned (.int .i64 (-1)) ∧ Below w.heap.size w w':=by
 have HT:Hid (∀ {x:World},Below w.heap.size w x → ∀ k,k < 14 → x.cell? ⟨g,k * 2,none⟩ = some (.int .i64 (tabNos.getD k 0:Nat)) ∧ x.cell? ⟨g,k * 2 + 1,none⟩ = some (tabKind k)):=by
   intro x hx k hk
   have e:=tab_at k hk
   have kx:=kT.below hx kT.lt
   have l1:k * 2 < tabCellsI.length:=by show k * 2 < 28;omega
   have l2:k * 2 + 1 < tabCellsI.length:=by show k * 2 + 1 < 28;omega
   rw [List.getElem?_eq_getElem l1,List.getElem?_eq_getElem l2] at e
   exact ⟨(kx.cell _ l1).trans e.1,(kx.cell _ l2).trans e.2⟩
 have hb0:=World.block_lt_of_cell? w _ hb
 have HB:Hid (∀ {x:World},Below w.heap.size w x → x.cell? ⟨gb,0,none⟩ = some (.int .i64 no)):=fun hx=>(hx.cell (p:=⟨gb,0,none⟩) hb0).trans hb
 clear kT hb
 go_enter Tryz.func100,Tryz.ntmps100
 go_wp2_with fail
 go_loopw [8] (fun i wr=>∃ k:Nat,k ≤ 14 ∧ i = .int .i64 k ∧ Below w.heap.size w wr) (fun i _=>14 - (intOf i).toNat)
 case atStart=>exact ⟨0,Nat.zero_le _,rfl,Below.refl _ _⟩
 case round =>
   obtain ⟨k,hk,rfl,hbel⟩:=hrel
   by_cases hlt:k < 14
   · obtain ⟨hx1,hx2⟩:=HT.out hbel k hlt
     have hlt':(k:Int) < 14:=by omega
     obtain ⟨m,hm⟩:∃ m,m = tabNos.getD k 0:=⟨_,rfl⟩
     obtain ⟨kd,hkd⟩:∃ v,v = tabKind k:=⟨_,rfl⟩
     rw [← hm] at hx1
     rw [← hkd] at hx2
     have hb1:=hbel.alloc hbel.size (Obj.cells #[.int .i64 (m:Int),kd] 118)
     have hbx:=HB.out hb1
     clear hkd hm
     have he':¬ (m:Int) = no:=by omega
     go_wp2
     go_roundw
     case rel=>exact ⟨k + 1,by omega,by go_num,hb1⟩
     case measure=>simp [intOf];omega
   · have hlt':¬ (k:Int) < 14:=by omega
     go_wp2
     go_ret
     exact ⟨rfl,hbel⟩
set_option maxHeartbeats 1000000 in
theorem ruleOf_neg (no:Int) (hneg:no < 0) (g:Nat) (w:World) (kT:Blk w g 118 tabCellsI) :
   Calls Tryz.prog 52 #[.slice (some ⟨g,0,none⟩) 14 14,.int .i64 no] w fun e w'=>e = .returned (.int .i64 (-1)) ∧ Below w.heap.size w w':=by
 have bz:=(Below.refl w.heap.size w).alloc (Nat.le_refl _) (Obj.cells #[.int .i64 no] 3)
 have HI:=hideT (indexF_neg no hneg g w.heap.size (w.alloc (Obj.cells #[.int .i64 no] 3)) (kT.below bz kT.lt) ((Blk.new w 3 #[.int .i64 no]).cell 0 (by simp)))
 clear kT
 go_enter Tryz.func52,Tryz.ntmps52
 go_wp2_with (go_at_call 100;refine HI.out.mono ?_;rintro e w2 ⟨rfl,b2⟩)
 go_ret
 exact ⟨rfl,bz.trans (b2.mono bz.size)⟩
def ruleZ (no:Int):Int:=if 0 ≤ no then ruleIx no.toNat else -1
theorem ruleOf_int (no:Int) (g:Nat) (w:World) (kT:Blk w g 118 tabCellsI) :
   Calls Tryz.prog 52 #[.slice (some ⟨g,0,none⟩) 14 14,.int .i64 no] w fun e w'=>e = .returned (.int .i64 (ruleZ no)) ∧ Below w.heap.size w w':=by
 unfold ruleZ
 by_cases h:0 ≤ no
 · rw [if_pos h]
   have e:=ruleOf_any no.toNat g w kT
   rw [Int.toNat_of_nonneg h] at e
   exact e
 · rw [if_neg h]
   exact ruleOf_neg no (by omega) g w kT
structure Fr (w:World) (v:Value) (L:List (Int × List UInt8)):Prop where
 sh:∃ ao cap,v = .slice ao L.length cap
 at_:∀ i,i < L.length → ∃ g o cap ai ci,v = .slice (some ⟨g,o,none⟩) L.length cap ∧ w.cell? ⟨g,o + i * 2,none⟩ = some (.int .i64 (L.getD i (0,[])).1) ∧ w.cell? ⟨g,o + i * 2 + 1,none⟩ = some (.slice ai (L.getD i (0,[])).2.length ci) ∧ RowAt w ai (L.getD i (0,[])).2
theorem Fr.below {w w':World} {v:Value} {L:List (Int × List UInt8)} (h:Fr w v L) (hb:Below w.heap.size w w'):Fr w' v L:=by
 refine ⟨h.sh,fun i hi=>?_⟩
 obtain ⟨g,o,cap,ai,ci,e,c1,c2,r⟩:=h.at_ i hi
 have hl:=World.block_lt_of_cell? w _ c1
 exact ⟨g,o,cap,ai,ci,e,(hb.cell (p:=⟨g,o + i * 2,none⟩) hl).trans c1,(hb.cell (p:=⟨g,o + i * 2 + 1,none⟩) hl).trans c2,r.below hb⟩
def bef (L:List (Int × List UInt8)):Nat → Int
 | 0=>0
 | i + 1=>(L.getD i (0,[])).1
def inZ (no:Int):Bool:=decide (0 ≤ no) && decide (no.toNat ∈ tabNos)
def fitZ (no:Int) (d:List UInt8):Bool:=inZ no && fitsN (kpL no.toNat) (kpM no.toNat) (kpOk no.toNat) d
def okF (b:Int) (p:Int × List UInt8):Bool:=decide (b < p.1) && fitZ p.1 p.2
def okL (L:List (Int × List UInt8)):Bool:=(List.range L.length).all (fun j=>okF (bef L j) (L.getD j (0,[])))
theorem okL_no (L:List (Int × List UInt8)) (i:Nat) (hi:i < L.length) (h:okF (bef L i) (L.getD i (0,[])) = false):okL L = false:=by
 unfold okL
 rw [List.all_eq_false]
 exact ⟨i,List.mem_range.2 hi,by rw [h];decide⟩
theorem okL_yes (L:List (Int × List UInt8)) (h:∀ i,i < L.length → okF (bef L i) (L.getD i (0,[])) = true):okL L = true:=by
 unfold okL
 rw [List.all_eq_true]
 intro i hi
 exact h i (List.mem_range.1 hi)
theorem Tryz.infoFz:(Tryz.prog.info? 29).map (fun i=>(i.zero,i.size,i.bytes)) = some (some (.agg #[.int .i64 0,.slice none 0 0]),2,32):=by kernel_rfl
theorem Tryz.infoB8:(Tryz.prog.info? 5).map (fun i=>(i.zero,i.size,i.bytes)) = some (some (.int .u8 0),1,1):=by kernel_rfl
theorem news_row {w:World} {b o:Nat} {d:List UInt8} (h:RowAt w (some ⟨b,o,none⟩) d):∀ j u,(d.map byte)[j]? = some u → w.cell? ((⟨b,o,none⟩:Addr).add j) = some u:=by
 intro j u hu
 obtain ⟨hj,he⟩:=List.getElem?_eq_some_iff.1 hu
 rw [List.length_map] at hj
 obtain ⟨b',o',he2,hc2⟩:=h.at hj
 cases he2
 rw [Addr.add_mid,hc2 j hj,← he]
 simp [byte,hj]
theorem news_one (d:List UInt8):∀ u ∈ d.map byte,u.oneCell' = true:=by
 intro u hu
 obtain ⟨x,-,rfl⟩:=List.mem_map.1 hu
 rfl
theorem run_append_empty {w:World} (base ty:Nat) (v:Value) (l:List UInt8) (hown:OwnB w base v l) (ao:Option Addr) (c:Nat) :
   (Builtin.append_ #[22,22] ty #[v,.slice ao 0 c]).run Tryz.prog w = .ok v w:=by
 obtain ⟨i0,hi,hz0,hz1,hz2⟩:=info_parts Tryz.infoB8
 rcases hown.2 with ⟨rfl,h0⟩ | ⟨g,cap,cur,rfl,_,_,hnc,_⟩
 · cases ao <;> simp [Builtin.append_,run_underlying Tryz.underlying22,sizeOf,typeInfo,hi,Builtin.lenOf,Builtin.firstCells,loadCells,loadCellsFrom]
 · cases ao <;> simp [Builtin.append_,run_underlying Tryz.underlying22,sizeOf,typeInfo,hi,Builtin.lenOf,Builtin.firstCells,hnc,storeCells,loadCells,loadCellsFrom]
theorem run_append_bytes {w:World} (base ty:Nat) (v:Value) (l d:List UInt8) (hown:OwnB w base v l) (ao:Option Addr) (c:Nat) (hr:RowAt w ao d) (h63:l.length + d.length ≤ 1073741824) (hbase:base ≤ w.heap.size) :
   ∃ v' w',(Builtin.append_ #[22,22] ty #[v,.slice ao d.length c]).run Tryz.prog w = .ok v' w' ∧ OwnB w' base v' (l ++ d) ∧ w.grownBy w' v.ownBlock:=by
 obtain ⟨i0,hi,hz0,hz1,hz2⟩:=info_parts Tryz.infoB8
 rcases hr with rfl | ⟨b,o,rfl,hc⟩
 · exact ⟨v,w,run_append_empty base ty v l hown ao c,by rw [List.append_nil];exact hown,⟨rfl,rfl,rfl,Nat.le_refl _,fun _ _ _=>rfl⟩⟩
 · obtain ⟨v',w',h1,h2,h3,-⟩:=run_append_own (P:=Tryz.prog) w base 22 ty 5 i0 (.int .u8 0) 1 1 Tryz.underlying22 hi hz0 hz1 hz2 rfl (by decide) v l.length (l.map byte) hown ⟨b,o,none⟩ d.length c (d.map byte) (by rw [List.length_map,Nat.mul_one]) (news_row (.inr ⟨b,o,rfl,hc⟩)) (news_one d) (by unfold maxLen;omega) (by omega) hbase
   refine ⟨v',w',h1,?_,h3⟩
   unfold OwnB
   rw [List.map_append,List.length_append]
   exact h2
theorem wpList_append_bytes {w:World} {ops:Array Oper} {rest:List Oper} {o:Oper} {a:Act} {Q:Exit → Act → World → Prop} (hgd:o.guard = none) (s x:Operand)
   (ho:o.op = .call { callee:=.builtin .append,args:=#[s,x],argTypes:=#[22,22] }) (base:Nat) (v:Value) (l d:List UInt8) (hs:a.eval s = v) (hown:OwnB w base v l) (ao:Option Addr) (c:Nat) (hx:a.eval x = .slice ao d.length c) (hr:RowAt w ao d) (h63:l.length + d.length ≤ 1073741824) (hbase:base ≤ w.heap.size)
   (h:∀ v' w',OwnB w' base v' (l ++ d) → w.grownBy w' v.ownBlock → wpList Tryz.prog ops Q rest (a.put o.dst v') w'):wpList Tryz.prog ops Q (o :: rest) a w:=by
 refine wpList_plain hgd fun K hK=>?_
 obtain ⟨v',w',hrun,h2,h3⟩:=run_append_bytes base o.type v l d hown ao c hr h63 hbase
 unfold Oper.wp execOp
 simp only [ho,resolve,invoke,builtin,Sem.run_bind,Sem.run_pure,Result.andThen_ok,List.map_toArray,List.map_cons,List.map_nil,hs,hx,hrun]
 exact hK _ _ (h v' w' h2 h3)
theorem run_append_text {w:World} (base ty:Nat) (v:Value) (l d:List UInt8) (hown:OwnB w base v l) (h63:l.length + d.length ≤ 1073741824) (hbase:base ≤ w.heap.size) :
   ∃ v' w',(Builtin.append_ #[22,9] ty #[v,.string ⟨d.toArray⟩]).run Tryz.prog w = .ok v' w' ∧ OwnB w' base v' (l ++ d) ∧ w.grownBy w' v.ownBlock:=by
 obtain ⟨i0,hi,hz0,hz1,hz2⟩:=info_parts Tryz.infoB8
 have hsz:(⟨d.toArray⟩:ByteArray).size = d.length:=by simp [ByteArray.size]
 obtain ⟨v',w',h1,h2,h3,-⟩:=Lib.run_append_own_string (P:=Tryz.prog) w base 22 9 ty 5 i0 Tryz.underlying22 Tryz.underlying9 hi hz0 hz1 hz2 v l.length (l.map byte) hown ⟨d.toArray⟩ (by rw [hsz];unfold maxLen;omega) (by rw [hsz];omega) hbase
 refine ⟨v',w',h1,?_,h3⟩
 unfold OwnB
 rw [List.map_append,List.length_append]
 rw [hsz] at h2
 exact h2
def OwnT (w:World) (base:Nat) (v:Value) (l:List UInt8):Prop:=∃ (g cap:Nat) (cur:Array Value) (fz:Nat × Nat),v = .slice (some ⟨g,0,none⟩) l.length cap ∧ base ≤ g ∧ w.heap[g]? = some (.cells cur 5 fz) ∧ (fz.2 = 0 ∨ cap ≤ fz.1) ∧ l.length ≤ cap ∧ cap ≤ maxLen ∧ cur.size = cap ∧ cur.toList.take l.length = l.map byte
theorem OwnT.row {w:World} {base:Nat} {v:Value} {l:List UInt8} (h:OwnT w base v l):∃ g cap,v = .slice (some ⟨g,0,none⟩) l.length cap ∧ base ≤ g ∧ g < w.heap.size ∧ RowAt w (some ⟨g,0,none⟩) l:=by
 obtain ⟨g,cap,cur,fz,rfl,hb,hg,-,hl,-,hcs,ht⟩:=h
 refine ⟨g,cap,rfl,hb,lt_of_block hg,.inr ⟨g,0,rfl,fun i hi=>?_⟩⟩
 have h1:(cur.toList.take l.length)[i]? = (l.map byte)[i]?:=by rw [ht]
 rw [List.getElem?_take,if_pos hi,List.getElem?_map,List.getElem?_eq_getElem hi] at h1
 rw [Nat.zero_add]
 simp only [World.cell?,hg]
 rw [Array.getElem?_toList] at h1
 rw [h1]
 simp [byte,hi]
theorem run_storeT (P:Program) (g o:Nat) (t:TypeId) (fz:Nat × Nat):∀ (vs:List Value) (i:Nat) (cur:Array Value) (w:World),w.heap[g]? = some (.cells cur t fz) → (fz.2 = 0 ∨ cur.size ≤ fz.1) → o + i + vs.length ≤ cur.size → (∀ v ∈ vs,v.oneCell' = true) →
   (storeCells ⟨g,o,none⟩ vs i).run P w = .ok () (w.setRow g (cur.toList.take (o + i) ++ vs ++ cur.toList.drop (o + i + vs.length)).toArray)
 | [],i,cur,w,hg,_,_,_=>by
   simp only [storeCells,List.append_nil,List.length_nil,Nat.add_zero,List.take_append_drop,Array.toArray_toList]
   rw [setRow_self w g cur t fz hg]
   rfl
 | v :: rest,i,cur,w,hg,hfz,hl,h1=>by
   have hi:o + i < cur.size:=by simp at hl;omega
   have hadd:(⟨g,o,none⟩:Addr).add i = ⟨g,o + i,none⟩:=by rw [Addr.add_mid]
   have hcell:w.cell? ⟨g,o + i,none⟩ = some cur[o + i]:=by simp [World.cell?,hg,hi]
   have hfro:w.frozen? ⟨g,o + i,none⟩ = false:=by
     obtain ⟨lo,hi'⟩:=fz
     simp only [World.frozen?,hg,Bool.and_eq_false_iff,decide_eq_false_iff_not]
     simp only at hfz
     omega
   have hst:(store ((⟨g,o,none⟩:Addr).add i) v).run P w = .ok () (w.setRow g (cur.setIfInBounds (o + i) v)):=by
     rw [hadd,run_store P w _ v _ (h1 v (by simp)),hcell]
     simp [hfro,setCell_eq_setRow w g (o + i) cur t fz v hg]
   have ih:=run_storeT P g o t fz rest (i + 1) (cur.setIfInBounds (o + i) v) (w.setRow g (cur.setIfInBounds (o + i) v)) (setRow_heap w g cur _ t _ hg) (by simpa using hfz) (by simp at hl ⊢;omega) (fun x hx=>h1 x (by simp [hx]))
   simp only [storeCells,Sem.run_bind,hst,Result.andThen_ok,ih,setRow_setRow]
   congr 3
   have e:=list_seg_step cur.toList (o + i) v rest (by simp at hl ⊢;omega)
   simpa [Array.toList_setIfInBounds,Nat.add_assoc] using e
theorem wp_append_text {w:World} {o:Oper} {a:Act} {K:Act → World → Prop} {Q:Exit → Act → World → Prop} (s x:Operand)
   (ho:o.op = .call { callee:=.builtin .append,args:=#[s,x],argTypes:=#[22,9] }) (base:Nat) (v:Value) (l d:List UInt8) (hs:a.eval s = v) (hown:OwnB w base v l) (hx:a.eval x = .string ⟨d.toArray⟩) (h63:l.length + d.length ≤ 1073741824) (hbase:base ≤ w.heap.size)
   (h:∀ v' w',OwnB w' base v' (l ++ d) → w.grownBy w' v.ownBlock → K (a.put o.dst v') w'):o.wp Tryz.prog a w K Q:=by
 obtain ⟨v',w',hrun,h2,h3⟩:=run_append_text base o.type v l d hown h63 hbase
 unfold Oper.wp execOp
 simp only [ho,resolve,invoke,builtin,Sem.run_bind,Sem.run_pure,Result.andThen_ok,List.map_toArray,List.map_cons,List.map_nil,hs,hx,hrun]
 exact h v' w' h2 h3
theorem conv_T (w:World) (s:ByteArray) (hs:s.size ≤ 1048576):∃ v w',(convert 9 22 (.string s)).run Tryz.prog w = .ok v w' ∧ OwnT w' w.heap.size v s.data.toList ∧ Below w.heap.size w w':=by
 have hge:=grownCap_ge w s.size 0 5
 have hle:=grownCap_le_maxLen w s.size 0 5 (by unfold maxLen;omega)
 have hl:s.data.toList.length = s.size:=Array.length_toList
 have hbc:(Lib.bytesCells w 5 s).size = grownCap w s.size 0 5:=by
   unfold Lib.bytesCells
   rw [Array.size_append,Array.size_map,Array.size_replicate]
   show s.size + _ = _
   omega
 refine ⟨_,_,Lib.run_convert_string_bytes w 9 22 5 s Tryz.underlying9 Tryz.underlying22 Tryz.underlying5,⟨w.heap.size,grownCap w s.size 0 5,_,_,by rw [hl],Nat.le_refl _,Lib.bytesWorld_at_new w _ s,.inr (by rw [hbc];exact Nat.le_refl _),by rw [hl];exact hge,hle,hbc,?_⟩,below_bw w _ s⟩
 unfold Lib.bytesCells
 rw [Array.toList_append,List.take_append_of_le_length (by simp),List.take_of_length_le (by simp)]
 simp [byte]
end Go.Proofs.YtbkokcjolanpeaaGreatDoor
