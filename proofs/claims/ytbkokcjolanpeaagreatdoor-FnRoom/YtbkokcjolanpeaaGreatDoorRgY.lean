import Derived.Test.YtbkokcjolanpeaaGreatDoorRgW
import Derived.Test.YtbkokcjolanpeaaGreatDoorRgX
import Derived.Shelf.Strconv.Atoi
import Derived.Lib.ConvBytes
import Derived.Shelf.Bytes.SlClone
import Derived.OwnWalk
namespace Go.Proofs
open Go.Shelf
def Tryz.lays172_ren:Go.Shelf.Ren:=⟨fun | 172=>182 | 244=>215 | 245=>216 | 247=>230 | 279=>231 | 280=>232 | 281=>233 | 282=>234 | 287=>256 | 316=>257 | 171=>154 | 205=>258 | 321=>268 | 322=>269 | 243=>183 | 246=>217 | 283=>235 | 284=>236 | 285=>237 | 286=>238 | 129=>260 | 317=>259 | 318=>261 | 319=>262 | 320=>263 | 337=>270 | 338=>271 | n=>n,fun | 9=>9 | 3=>3 | 75=>75 | 76=>282 | 4=>4 | 5=>5 | 167=>343 | 37=>22 | 0=>0 | 85=>344 | 2=>2 | 168=>346 | 53=>198 | 175=>363 | 46=>103 | 210=>367 | 127=>318 | 145=>378 | 143=>376 | 21=>21 | 171=>349 | 173=>352 | 212=>370 | 51=>246 | 20=>20 | 213=>371 | 232=>356 | 233=>294 | 80=>289 | n=>n,fun | 15=>3 | 16=>4 | 17=>5 | 18=>8 | 19=>9 | n=>n⟩
theorem Tryz.lays172:Go.Proofs.Lays.n172 Tryz.prog Tryz.lays172_ren:={
 mixed:=by kernel_rfl
 f129:=Tryz.func260.trans (congrArg some (by kernel_rfl))
 f171:=Tryz.func154.trans (congrArg some (by kernel_rfl))
 f172:=Tryz.func182.trans (congrArg some (by kernel_rfl))
 f205:=Tryz.func258.trans (congrArg some (by kernel_rfl))
 f243:=Tryz.func183.trans (congrArg some (by kernel_rfl))
 f244:=Tryz.func215.trans (congrArg some (by kernel_rfl))
 f245:=Tryz.func216.trans (congrArg some (by kernel_rfl))
 f246:=Tryz.func217.trans (congrArg some (by kernel_rfl))
 f247:=Tryz.func230.trans (congrArg some (by kernel_rfl))
 f279:=Tryz.func231.trans (congrArg some (by kernel_rfl))
 f280:=Tryz.func232.trans (congrArg some (by kernel_rfl))
 f281:=Tryz.func233.trans (congrArg some (by kernel_rfl))
 f282:=Tryz.func234.trans (congrArg some (by kernel_rfl))
 f283:=Tryz.func235.trans (congrArg some (by kernel_rfl))
 f284:=Tryz.func236.trans (congrArg some (by kernel_rfl))
 f285:=Tryz.func237.trans (congrArg some (by kernel_rfl))
 f286:=Tryz.func238.trans (congrArg some (by kernel_rfl))
 f287:=Tryz.func256.trans (congrArg some (by kernel_rfl))
 f316:=Tryz.func257.trans (congrArg some (by kernel_rfl))
 f317:=Tryz.func259.trans (congrArg some (by kernel_rfl))
 f318:=Tryz.func261.trans (congrArg some (by kernel_rfl))
 f319:=Tryz.func262.trans (congrArg some (by kernel_rfl))
 f320:=Tryz.func263.trans (congrArg some (by kernel_rfl))
 f321:=Tryz.func268.trans (congrArg some (by kernel_rfl))
 f322:=Tryz.func269.trans (congrArg some (by kernel_rfl))
 f337:=Tryz.func270.trans (congrArg some (by kernel_rfl))
 f338:=Tryz.func271.trans (congrArg some (by kernel_rfl))
 t0:=Tryz.underlying0
 a0:=Tryz.isAgg0
 z0:=Tryz.sizeOf0
 v0:=Tryz.zeroValue0
 t2:=Tryz.underlying2
 a2:=Tryz.isAgg2
 z2:=Tryz.sizeOf2
 v2:=Tryz.zeroValue2
 t3:=Tryz.underlying3
 a3:=Tryz.isAgg3
 z3:=Tryz.sizeOf3
 v3:=Tryz.zeroValue3
 t4:=Tryz.underlying4
 a4:=Tryz.isAgg4
 z4:=Tryz.sizeOf4
 v4:=Tryz.zeroValue4
 t5:=Tryz.underlying5
 a5:=Tryz.isAgg5
 z5:=Tryz.sizeOf5
 v5:=Tryz.zeroValue5
 t9:=Tryz.underlying9
 a9:=Tryz.isAgg9
 z9:=Tryz.sizeOf9
 v9:=Tryz.zeroValue9
 t20:=Tryz.underlying20
 a20:=Tryz.isAgg20
 z20:=Tryz.sizeOf20
 v20:=Tryz.zeroValue20
 t21:=Tryz.underlying21
 a21:=Tryz.isAgg21
 z21:=Tryz.sizeOf21
 v21:=Tryz.zeroValue21
 t37:=Tryz.underlying22
 a37:=Tryz.isAgg22
 z37:=Tryz.sizeOf22
 v37:=Tryz.zeroValue22
 t46:=Tryz.underlying103
 a46:=Tryz.isAgg103
 z46:=Tryz.sizeOf103
 v46:=Tryz.zeroValue103
 t51:=Tryz.underlying246
 a51:=Tryz.isAgg246
 z51:=Tryz.sizeOf246
 v51:=Tryz.zeroValue246
 t53:=Tryz.underlying198
 a53:=Tryz.isAgg198
 z53:=Tryz.sizeOf198
 v53:=Tryz.zeroValue198
 t75:=Tryz.underlying75
 a75:=Tryz.isAgg75
 z75:=Tryz.sizeOf75
 v75:=Tryz.zeroValue75
 t76:=Tryz.underlying282
 a76:=Tryz.isAgg282
 z76:=Tryz.sizeOf282
 v76:=Tryz.zeroValue282
 t85:=Tryz.underlying344
 a85:=Tryz.isAgg344
 z85:=Tryz.sizeOf344
 v85:=Tryz.zeroValue344
 t127:=Tryz.underlying318
 a127:=Tryz.isAgg318
 z127:=Tryz.sizeOf318
 v127:=Tryz.zeroValue318
 t143:=Tryz.underlying376
 a143:=Tryz.isAgg376
 z143:=Tryz.sizeOf376
 v143:=Tryz.zeroValue376
 t145:=Tryz.underlying378
 a145:=Tryz.isAgg378
 z145:=Tryz.sizeOf378
 v145:=Tryz.zeroValue378
 t167:=Tryz.underlying343
 a167:=Tryz.isAgg343
 z167:=Tryz.sizeOf343
 v167:=Tryz.zeroValue343
 t168:=Tryz.underlying346
 a168:=Tryz.isAgg346
 z168:=Tryz.sizeOf346
 v168:=Tryz.zeroValue346
 t171:=Tryz.underlying349
 a171:=Tryz.isAgg349
 z171:=Tryz.sizeOf349
 v171:=Tryz.zeroValue349
 t173:=Tryz.underlying352
 a173:=Tryz.isAgg352
 z173:=Tryz.sizeOf352
 v173:=Tryz.zeroValue352
 t175:=Tryz.underlying363
 a175:=Tryz.isAgg363
 z175:=Tryz.sizeOf363
 v175:=Tryz.zeroValue363
 t210:=Tryz.underlying367
 a210:=Tryz.isAgg367
 z210:=Tryz.sizeOf367
 v210:=Tryz.zeroValue367
 t212:=Tryz.underlying370
 a212:=Tryz.isAgg370
 z212:=Tryz.sizeOf370
 v212:=Tryz.zeroValue370
 t213:=Tryz.underlying371
 a213:=Tryz.isAgg371
 z213:=Tryz.sizeOf371
 t232:=Tryz.underlying356
 a232:=Tryz.isAgg356
 z232:=Tryz.sizeOf356
 v232:=Tryz.zeroValue356
 t233:=Tryz.underlying294
 a233:=Tryz.isAgg294
 z233:=Tryz.sizeOf294
 v233:=Tryz.zeroValue294
 g15:=by kernel_rfl
 g16:=by kernel_rfl
 g17:=by kernel_rfl
 g18:=by kernel_rfl
 g19:=by kernel_rfl }
open Go.RowKit in
theorem Tryz.strconv_Atoi (s:ByteArray) (n:Int) (hl:s.size ≤ 18) (h:Lib.atoi s.data.toList = some n) (w:World) :
   Calls Tryz.prog 182 #[.string s] w fun e w'=>e = .returned (.tuple #[.int .i64 n,.nilIface]) ∧ ∃ t,w' = Lib.bytesWorld w 5 t:=Any.strconv_Atoi Tryz.lays172 s n hl h w
end Go.Proofs
namespace Go.Proofs.YtbkokcjolanpeaaGreatDoor
open Go.RowKit
theorem below_bw (w:World) (e:TypeId) (s:ByteArray):Below w.heap.size w (Lib.bytesWorld w e s):=⟨rfl,rfl,rfl,by rw [Lib.bytesWorld_size];omega,fun k hk=>Lib.bytesWorld_at_old w _ s k hk⟩
def numL (l:List UInt8):Nat:=l.foldl (fun n c=>n * 10 + (c.toNat - 48)) 0
theorem decFrom_dig (l:List UInt8):∀ (acc:Nat),l.all dig = true → Lib.decFrom acc l = some (l.foldl (fun n c=>n * 10 + (c.toNat - 48)) acc):=by
 induction l with
 | nil=>intro acc _;rfl
 | cons b r ih =>
   intro acc h
   rw [List.all_cons,Bool.and_eq_true] at h
   have hb:=dig_to h.1
   show (match Lib.digitVal b with | some d=>Lib.decFrom (acc * 10 + d) r | none=>none) = _
   rw [show Lib.digitVal b = some (b.toNat - 48) from by unfold Lib.digitVal;rw [if_pos hb]]
   exact ih _ h.2
theorem atoi_dig (l:List UInt8) (h:l.all dig = true) (h0:0 < l.length):Lib.atoi l = some (numL l:Int):=by
 cases l with
 | nil=>simp at h0
 | cons b r =>
   have hb:=dig_to (by rw [List.all_cons,Bool.and_eq_true] at h;exact h.1)
   have n1:(b == 45) = false:=by rw [beq_eq_false_iff_ne];rintro rfl;simp at hb
   have n2:(b == 43) = false:=by rw [beq_eq_false_iff_ne];rintro rfl;simp at hb
   show (if (b == 45) = true then (Lib.decNat r).map (fun (m:Nat)=>-(m:Int)) else if (b == 43) = true then (Lib.decNat r).map (fun (m:Nat)=>(m:Int)) else (Lib.decNat (b :: r)).map (fun (m:Nat)=>(m:Int))) = _
   rw [n1,n2]
   simp only [Bool.false_eq_true,if_false]
   unfold Lib.decNat
   rw [if_neg (by simp),decFrom_dig _ _ h]
   rfl
set_option maxHeartbeats 1000000 in
theorem sizeIn_fixed (n:Nat) (s:ByteArray) (w:World) :
   Calls Tryz.prog 150 #[.agg #[.int .i64 0,.int .i64 (n:Int),.int .i64 (n:Int)],.string s] w fun e w'=>e = .returned (.tuple #[.int .i64 (n:Int),.bool true]) ∧ Below w.heap.size w w':=by
 go_enter Tryz.func150,Tryz.ntmps150
 go_wp2
 go_ret2
 exact ⟨rfl,(Below.refl _ w).alloc (Nat.le_refl _) _⟩
set_option maxHeartbeats 2000000 in
theorem sizeIn_counted (d l m:Nat) (s:ByteArray) (w:World) (hd:0 < d) (h18:s.size ≤ 18) (h0:0 < s.size) :
   Calls Tryz.prog 150 #[.agg #[.int .i64 (d:Int),.int .i64 (l:Int),.int .i64 (m:Int)],.string s] w fun e w'=>e = .returned (.tuple #[.int .i64 (if digs s then (numL s.data.toList:Int) else 0),.bool (digs s && decide (l ≤ numL s.data.toList ∧ numL s.data.toList ≤ m))]) ∧ Below w.heap.size w w':=by
 have hd0:¬ (d:Int) = 0:=by omega
 have bz:=(Below.refl w.heap.size w).alloc (Nat.le_refl _) (Obj.cells #[.int .i64 (d:Int),.int .i64 (l:Int),.int .i64 (m:Int)] 193)
 cases hg:digs s
 · have HA:=hideI (fun (wx:World)=>allDigits_any s wx)
   rw [hg] at HA
   clear hg
   go_enter Tryz.func150,Tryz.ntmps150
   go_wp2_with (go_at_call 99;refine (HA.out _).mono ?_;rintro e w2 ⟨rfl,b2⟩)
   go_ret2
   exact ⟨rfl,bz.trans (b2.mono bz.size)⟩
 · have HA:=hideI (fun (wx:World)=>allDigits_any s wx)
   have HT:=hideI (fun (wx:World)=>Tryz.strconv_Atoi s (numL s.data.toList:Int) h18 (atoi_dig _ hg h0) wx)
   rw [hg] at HA
   clear hg
   obtain ⟨N,hN⟩:∃ N,N = numL s.data.toList:=⟨_,rfl⟩
   rw [← hN] at HT ⊢
   clear hN
   have HS:=hideI (fun (wx:World)=>spans_any d l m N wx)
   obtain ⟨W,hW⟩:∃ x,x = w.alloc (Obj.cells #[.int .i64 (d:Int),.int .i64 (l:Int),.int .i64 (m:Int)] 193):=⟨_,rfl⟩
   have kE:Blk W w.heap.size 193 [.int .i64 (d:Int),.int .i64 (l:Int),.int .i64 (m:Int)]:=by rw [hW];exact Blk.new _ _ _
   rw [← hW] at bz
   have HW:=hideI hW
   clear hW
   go_enter Tryz.func150,Tryz.ntmps150
   go_upto_region 1 with fail
   rw [← show W = _ from HW]
   have e0:=kE.cell 0 (by simp)
   have e1:=kE.cell 1 (by simp)
   go_wp2_with fail
   refine (HA.out _).mono ?_
   rintro e w2 ⟨rfl,b2⟩
   go_wp2_with fail
   refine (HT.out _).mono ?_
   rintro e w3 ⟨rfl,t,hw3⟩
   have b3:Below w2.heap.size w2 w3:=by rw [hw3];exact below_bw _ _ _
   have bW3:=b2.trans (b3.mono b2.size)
   have kE3:=kE.below bW3 kE.lt
   have bz3:=bz.trans (bW3.mono bz.size)
   clear hw3 b2 b3 bW3 kE HW bz HA HT e0 e1
   have e0:=kE3.cell 0 (by simp)
   have e1:=kE3.cell 1 (by simp)
   have e2:=kE3.cell 2 (by simp)
   go_wp2_with fail
   refine (HS.out _).mono ?_
   rintro e w4 ⟨rfl,b4⟩
   go_wp2_with fail
   go_ret2
   exact ⟨rfl,bz3.trans (b4.mono bz3.size)⟩
theorem hideT {p:Prop} (h:p):Hid p:=h
def tabNos:List Nat:=[2,3,4,7,11,37,39,41,48,52,53,64,70,128]
def tabKind (k:Nat):Value:=(tabCellsI.getD (k * 2 + 1) (.int .i64 0))
theorem tab_at (k:Nat) (hk:k < 14):tabCellsI[k * 2]? = some (.int .i64 (tabNos.getD k 0:Nat)) ∧ tabCellsI[k * 2 + 1]? = some (tabKind k):=by
 match k,hk with
 | 0,_=>exact ⟨rfl,rfl⟩
 | 1,_=>exact ⟨rfl,rfl⟩
 | 2,_=>exact ⟨rfl,rfl⟩
 | 3,_=>exact ⟨rfl,rfl⟩
 | 4,_=>exact ⟨rfl,rfl⟩
 | 5,_=>exact ⟨rfl,rfl⟩
 | 6,_=>exact ⟨rfl,rfl⟩
 | 7,_=>exact ⟨rfl,rfl⟩
 | 8,_=>exact ⟨rfl,rfl⟩
 | 9,_=>exact ⟨rfl,rfl⟩
 | 10,_=>exact ⟨rfl,rfl⟩
 | 11,_=>exact ⟨rfl,rfl⟩
 | 12,_=>exact ⟨rfl,rfl⟩
 | 13,_=>exact ⟨rfl,rfl⟩
def ruleIx (no:Nat):Int:=if no ∈ tabNos then (tabNos.idxOf no:Int) else -1
theorem ruleIx_hit (no k:Nat) (hk:k < 14) (h:tabNos.getD k 0 = no):ruleIx no = (k:Int):=by
 subst h
 match k,hk with
 | 0,_ | 1,_ | 2,_ | 3,_ | 4,_ | 5,_ | 6,_ | 7,_ | 8,_ | 9,_ | 10,_ | 11,_ | 12,_ | 13,_=>decide
theorem ruleIx_none (no:Nat) (h:∀ k,k < 14 → tabNos.getD k 0 ≠ no):ruleIx no = -1:=by
 have hm:no ∉ tabNos:=by
   intro hm
   obtain ⟨k,hk,e⟩:=List.getElem_of_mem hm
   exact h k hk (by rw [List.getD_eq_getElem?_getD,List.getElem?_eq_getElem hk];exact e)
 unfold ruleIx
 rw [if_neg hm]
set_option maxHeartbeats 1000000 in
theorem indexF_any (no g gb:Nat) (w:World) (kT:Blk w g 118 tabCellsI) (hb:w.cell? ⟨gb,0,none⟩ = some (.int .i64 (no:Int))) :
   Calls Tryz.prog 100 #[.slice (some ⟨g,0,none⟩) 14 14,.func (Fn.func 101) #[] #[.pointer (some ⟨gb,0,none⟩)]] w fun e w'=>e = .returned (.int .i64 (ruleIx no)) ∧ Below w.heap.size w w':=by
 have HT:Hid (∀ {x:World},Below w.heap.size w x → ∀ k,k < 14 → x.cell? ⟨g,k * 2,none⟩ = some (.int .i64 (tabNos.getD k 0:Nat)) ∧ x.cell? ⟨g,k * 2 + 1,none⟩ = some (tabKind k)):=by
   intro x hx k hk
   have e:=tab_at k hk
   have kx:=kT.below hx kT.lt
   have l1:k * 2 < tabCellsI.length:=by show k * 2 < 28;omega
   have l2:k * 2 + 1 < tabCellsI.length:=by show k * 2 + 1 < 28;omega
   rw [List.getElem?_eq_getElem l1,List.getElem?_eq_getElem l2] at e
   exact ⟨(kx.cell _ l1).trans e.1,(kx.cell _ l2).trans e.2⟩
 have hb0:=World.block_lt_of_cell? w _ hb
 have HB:Hid (∀ {x:World},Below w.heap.size w x → x.cell? ⟨gb,0,none⟩ = some (.int .i64 (no:Int))):=fun hx=>(hx.cell (p:=⟨gb,0,none⟩) hb0).trans hb
 clear kT hb
 go_enter Tryz.func100,Tryz.ntmps100
 go_wp2_with fail
 go_loopw [8] (fun i wr=>∃ k:Nat,k ≤ 14 ∧ i = .int .i64 k ∧ Hid (∀ j,j < k → tabNos.getD j 0 ≠ no) ∧ Below w.heap.size w wr) (fun i _=>14 - (intOf i).toNat)
 case atStart=>exact ⟨0,Nat.zero_le _,rfl,fun j h=>absurd h (Nat.not_lt_zero j),Below.refl _ _⟩
 case round =>
   obtain ⟨k,hk,rfl,HN,hbel⟩:=hrel
   by_cases hlt:k < 14
   · obtain ⟨hx1,hx2⟩:=HT.out hbel k hlt
     have hlt':(k:Int) < 14:=by omega
     obtain ⟨m,hm⟩:∃ m,m = tabNos.getD k 0:=⟨_,rfl⟩
     obtain ⟨kd,hkd⟩:∃ v,v = tabKind k:=⟨_,rfl⟩
     rw [← hm] at hx1
     rw [← hkd] at hx2
     have hb1:=hbel.alloc hbel.size (Obj.cells #[.int .i64 (m:Int),kd] 118)
     have hbx:=HB.out hb1
     have HM:=hideT hm
     clear hkd hm
     by_cases he:m = no
     · subst he
       go_wp2
       go_ret
       exact ⟨by rw [ruleIx_hit m k hlt HM.out.symm];rfl,hb1⟩
     · have he':¬ (m:Int) = (no:Int):=by omega
       go_wp2
       go_roundw
       case rel=>exact ⟨k + 1,by omega,by go_num,fun j hj=>by
         by_cases hjk:j = k
         · rw [hjk,← HM.out];exact he
         · exact HN.out j (by omega),hb1⟩
       case measure=>simp [intOf];omega
   · have hlt':¬ (k:Int) < 14:=by omega
     go_wp2
     go_ret
     exact ⟨by rw [ruleIx_none no (fun j hj=>HN.out j (by omega))];rfl,hbel⟩
set_option maxHeartbeats 1000000 in
theorem ruleOf_any (no g:Nat) (w:World) (kT:Blk w g 118 tabCellsI) :
   Calls Tryz.prog 52 #[.slice (some ⟨g,0,none⟩) 14 14,.int .i64 (no:Int)] w fun e w'=>e = .returned (.int .i64 (ruleIx no)) ∧ Below w.heap.size w w':=by
 have bz:=(Below.refl w.heap.size w).alloc (Nat.le_refl _) (Obj.cells #[.int .i64 (no:Int)] 3)
 have HI:=hideT (indexF_any no g w.heap.size (w.alloc (Obj.cells #[.int .i64 (no:Int)] 3)) (kT.below bz kT.lt) ((Blk.new w 3 #[.int .i64 (no:Int)]).cell 0 (by simp)))
 clear kT
 go_enter Tryz.func52,Tryz.ntmps52
 go_wp2_with (go_at_call 100;refine HI.out.mono ?_;rintro e w2 ⟨rfl,b2⟩)
 go_ret
 exact ⟨rfl,bz.trans (b2.mono bz.size)⟩
end Go.Proofs.YtbkokcjolanpeaaGreatDoor
namespace Go.Proofs
open Go.Shelf
def Tryz.laysSlK4_ren:Go.Shelf.Ren:=⟨fun | 4=>151 | n=>n,fun | 22=>22 | 4=>4 | 5=>5 | n=>n,fun | n=>n⟩
theorem Tryz.laysSlK4:Go.Proofs.SlLaysK.n4 Tryz.prog Tryz.laysSlK4_ren:={
 mixed:=by kernel_rfl
 f4:=Tryz.func151.trans (congrArg some (by kernel_rfl))
 t4:=Tryz.underlying4
 a4:=Tryz.isAgg4
 z4:=Tryz.sizeOf4
 v4:=Tryz.zeroValue4
 t22:=Tryz.underlying22
 a22:=Tryz.isAgg22
 z22:=Tryz.sizeOf22
 v22:=Tryz.zeroValue22
 t5:=Tryz.underlying5
 i5:=by kernel_rfl }
open Go.RowKit Go.Lib in
theorem Tryz.bytes_Clone_at (a:Addr) (n c:Nat) (xs:List Int) (w:World) (hx:xs.length = n) (hbig:n ≤ 140737488355328) (hc:∀ i,i < n → w.cell? (a.add i) = some (.int .u8 (xs.getD i 0))) :
   Calls Tryz.prog 151 #[.slice (some a) n c] w fun e w'=>∃ v',e = .returned v' ∧ w'.ownsRow w.heap.size 5 1 v' n (xs.map (Value.int .u8)) ∧ v' ≠ .slice none 0 0 ∧ Below w.heap.size w w':=Any.bytes_Clone_at Tryz.laysSlK4 a n c xs w hx hbig hc
end Go.Proofs
namespace Go.Proofs.YtbkokcjolanpeaaGreatDoor
open Go.RowKit
theorem row_rangeI {w:World} {ao:Option Addr} {bs:List UInt8} (h:RowAt w ao bs) (h0:0 < bs.length):∃ b off,ao = some ⟨b,off,none⟩ ∧ w.rangeAt b off (bs.map byte):=by
 obtain ⟨b,off,rfl,hc⟩:=h.at h0
 refine ⟨b,off,rfl,?_⟩
 intro j v hv
 obtain ⟨hj,he⟩:=List.getElem?_eq_some_iff.1 hv
 rw [List.length_map] at hj
 rw [hc j hj,← he]
 simp [byte,hj]
theorem conv_anyI (A:List UInt8) (ao:Option Addr) (n c:Nat) (w:World) (hn:A.length = n) (h:RowAt w ao A):(convert 22 9 (.slice ao n c)).run Tryz.prog w = .ok (.string ⟨A.toArray⟩) w:=by
 by_cases h0:A = []
 · subst h0
   subst hn
   cases ao with
   | none=>exact conv_nil' 0 c w rfl
   | some x =>
     rw [run_convert_bytes_string w 22 9 5 _ _ _ Tryz.underlying22 Tryz.underlying5 Tryz.underlying9]
     exact run_bytesToString w x 0 c [] (by have hl:=run_loadCells_list (P:=Tryz.prog) w x [] (by intro j u h;simp at h);exact hl)
 · rw [← strOf_eq]
   obtain ⟨b,off,rfl,hr⟩:=row_rangeI h (by have:=List.length_pos_iff.2 h0;omega)
   rw [run_convert_bytes_string w 22 9 5 _ _ _ Tryz.underlying22 Tryz.underlying5 Tryz.underlying9]
   refine run_bytesToString w ⟨b,off,none⟩ n c (A.map fun b=>(b.toNat:Int)) ?_
   have hl:=run_loadCells_list (P:=Tryz.prog) w ⟨b,off,none⟩ (A.map byte) (by intro j u hu;rw [Addr.add_mid];exact hr j u hu)
   rw [List.length_map,hn] at hl
   rw [hl,List.map_map]
   rfl
theorem Own.monoI {w:World} {B base:Nat} {v:Value} {l:List UInt8} (h:Own w base v l) (hB:B ≤ base):Own w B v l:=by
 obtain ⟨t,h1,h2⟩:=h
 refine ⟨t,h1,?_⟩
 rcases h2 with h2 | ⟨g,cap,cur,hv,hb,rest⟩
 · exact .inl h2
 · exact .inr ⟨g,cap,cur,hv,by omega,rest⟩
theorem own_nilI (w:World) (base:Nat):Own w base (.slice none 0 0) []:=⟨5,World.ownsRow_nil _ _ _ _⟩
theorem clone_any (l:List UInt8) (a:Addr) (cap:Nat) (w:World) (hn:l.length ≤ 1048576) (hr:RowAt w (some a) l) :
   Calls Tryz.prog 151 #[.slice (some a) l.length cap] w fun e w'=>∃ v,e = .returned v ∧ Own w' w.heap.size v l ∧ Below w.heap.size w w':=by
 refine (Tryz.bytes_Clone_at a l.length cap (l.map fun b=>(b.toNat:Int)) w (by simp) (by omega) (fun i hi=>?_)).mono ?_
 · obtain ⟨b,off,e,hc⟩:=hr.at hi
   cases e
   have h:=hc i hi
   rw [Addr.add_mid]
   have e2:(l.map fun b=>(b.toNat:Int)).getD i 0 = ((l.getD i 0).toNat:Int):=by simp [hi]
   rw [e2]
   exact h
 · rintro e w' ⟨v,rfl,own,-,bel⟩
   refine ⟨v,rfl,⟨5,?_⟩,bel⟩
   have e3:(l.map fun b=>(b.toNat:Int)).map (Value.int .u8) = l.map byte:=by rw [List.map_map];rfl
   rw [← e3]
   exact own
def fC (d l m:Nat) (ok:UInt8 → Bool) (sz:List UInt8 → Nat) (sd:List UInt8 → Bool) (rest:List UInt8):Nat :=
 if rest.length < d then 1 else if sd (rest.take d) = false then 4 else if rest.length < d + sz (rest.take d) then 1 else if fitsN l m ok ((rest.drop d).take (sz (rest.take d))) = true then 0 else 4
def fD (d l m:Nat) (ok:UInt8 → Bool) (sz:List UInt8 → Nat) (sd:List UInt8 → Bool) (rest:List UInt8):List UInt8 :=
 if fC d l m ok sz sd rest = 0 then (rest.drop d).take (sz (rest.take d)) else []
def fE (d l m:Nat) (ok:UInt8 → Bool) (sz:List UInt8 → Nat) (sd:List UInt8 → Bool) (rest:List UInt8):Nat :=
 if fC d l m ok sz sd rest = 0 then d + sz (rest.take d) else 0
structure Kd (T:Nat) (x r:Value) (FE d l m:Nat) (ok:UInt8 → Bool) (sz:List UInt8 → Nat) (sd:List UInt8 → Bool):Prop where
 mE:∀ w:World,(Go.method 509 T x "loop.example/s01728/impl.extent").run Tryz.prog w = .ok (FE,r) w
 cF:∀ w:World,(callFunc FE #[r]).run Tryz.prog w = .ok (.enter FE #[r]) w
 HE:∀ w:World,Calls Tryz.prog FE #[r] w fun e w'=>e = .returned (.agg #[.int .i64 (d:Int),.int .i64 (l:Int),.int .i64 (m:Int)]) ∧ Below w.heap.size w w'
 HF:∀ (data:List UInt8) (ao:Option Addr) (cap:Nat) (w:World),data.length ≤ 1048576 → RowAt w ao data → Calls Tryz.prog 53 #[.iface T x,.slice ao data.length cap] w fun e w'=>e = .returned (.bool (fitsN l m ok data)) ∧ Below w.heap.size w w'
 HS:∀ (s:List UInt8) (w:World),s.length = d → Calls Tryz.prog 150 #[.agg #[.int .i64 (d:Int),.int .i64 (l:Int),.int .i64 (m:Int)],.string ⟨s.toArray⟩] w fun e w'=>e = .returned (.tuple #[.int .i64 (sz s:Int),.bool (sd s)]) ∧ Below w.heap.size w w'
 d3:d ≤ 3
 z:∀ s,s.length = d → sz s ≤ 1000
set_option maxRecDepth 100000 in
set_option maxHeartbeats 4000000 in
theorem readField_any {T:Nat} {x r:Value} {FE d l m:Nat} {ok:UInt8 → Bool} {sz:List UInt8 → Nat} {sd:List UInt8 → Bool} (K:Kd T x r FE d l m ok sz sd) (rest:List UInt8) (b o cap:Nat) (w:World) (hn:rest.length ≤ 4096) (hcap:rest.length ≤ cap) (hr:RowAt w (some ⟨b,o,none⟩) rest) :
   Calls Tryz.prog 94 #[.iface T x,.slice (some ⟨b,o,none⟩) rest.length cap] w fun e w'=>∃ v,e = .returned (.tuple #[v,.int .i64 (fE d l m ok sz sd rest:Nat),.int .i64 (fC d l m ok sz sd rest:Nat)]) ∧ Own w' w.heap.size v (fD d l m ok sz sd rest) ∧ Below w.heap.size w w':=by
 have mE:=K.mE
 have cF:=K.cF
 have HE:=hideT K.HE
 have hd3:=K.d3
 obtain ⟨N,hN⟩:∃ N,N = rest.length:=⟨_,rfl⟩
 have HN:=hideT hN
 by_cases h1:N < d
 · have ec:fC d l m ok sz sd rest = 1:=by unfold fC;rw [if_pos (by omega)]
   have ed:fD d l m ok sz sd rest = []:=by unfold fD;rw [ec];rfl
   have ee:fE d l m ok sz sd rest = 0:=by unfold fE;rw [ec];rfl
   have h1I:(N:Int) < (d:Int):=by omega
   rw [ec,ed,ee]
   rw [← hN]
   clear hN hr ec ed ee
   go_enter Tryz.func94,Tryz.ntmps94
   go_wp2_with (refine (HE.out _).mono ?_;rintro e w1 ⟨rfl,b1⟩)
   go_ret3
   exact ⟨_,rfl,own_nilI _ _,b1.alloc b1.size _⟩
 have hdI:¬ ((N:Int) < (d:Int)):=by omega
 have hdc:(d:Int) ≤ (cap:Int):=by omega
 have hdn:(0:Int) ≤ (d:Int):=by omega
 have hdr:(rest.take d).length = d:=by rw [List.length_take];omega
 have HCV:=hideT (fun (wx:World) (h:RowAt wx (some ⟨b,o,none⟩) rest)=>conv_anyI (rest.take d) (some ⟨b,o,none⟩) d cap wx hdr (RowAt.take h d))
 have HSZ:=hideT (fun (wx:World)=>K.HS (rest.take d) wx hdr)
 have hzb:=K.z (rest.take d) hdr
 have HFT:=hideT K.HF
 obtain ⟨HS,hHS⟩:∃ t:ByteArray,t = ⟨(rest.take d).toArray⟩:=⟨_,rfl⟩
 rw [← hHS] at HSZ HCV
 have HR:Hid (fC d l m ok sz sd rest = (if sd (rest.take d) = false then 4 else if N < d + sz (rest.take d) then 1 else if fitsN l m ok ((rest.drop d).take (sz (rest.take d))) = true then 0 else 4) ∧ fD d l m ok sz sd rest = (if fC d l m ok sz sd rest = 0 then (rest.drop d).take (sz (rest.take d)) else []) ∧ fE d l m ok sz sd rest = (if fC d l m ok sz sd rest = 0 then d + sz (rest.take d) else 0)):=by
   refine ⟨?_,rfl,rfl⟩
   show fC d l m ok sz sd rest = _
   unfold fC
   rw [if_neg (by omega),← hN]
 obtain ⟨RC,hRC⟩:∃ c,c = fC d l m ok sz sd rest:=⟨_,rfl⟩
 obtain ⟨RD,hRD⟩:∃ c,c = fD d l m ok sz sd rest:=⟨_,rfl⟩
 obtain ⟨RE,hRE⟩:∃ c,c = fE d l m ok sz sd rest:=⟨_,rfl⟩
 rw [← hRC,← hRD,← hRE] at HR ⊢
 obtain ⟨z,hz⟩:∃ c,c = sz (rest.take d):=⟨_,rfl⟩
 obtain ⟨q,hq⟩:∃ c,c = sd (rest.take d):=⟨_,rfl⟩
 rw [← hz,← hq] at HSZ
 rw [← hz,← hq] at HR
 rw [← hz] at hzb
 rw [← hN]
 have hwr:IntKind.i64.wrap ((d:Int) + (z:Int)) = ((d + z:Nat):Int):=by rw [IntKind.wrap_i64];omega
 obtain ⟨E,hE⟩:∃ e,e = d + z:=⟨_,rfl⟩
 rw [← hE] at hwr HR
 have hEd:(d:Int) ≤ (E:Int):=by omega
 have HE2:=hideT hE
 clear hN hHS hRC hRD hRE hz hq hE
 go_enter Tryz.func94,Tryz.ntmps94
 go_upto_region 4 with (refine (HE.out _).mono ?_;rintro e w1 ⟨rfl,b1⟩)
 obtain ⟨W,hW⟩:∃ x,x = w1.alloc (Obj.cells #[.int .i64 (d:Int),.int .i64 (l:Int),.int .i64 (m:Int)] 193):=⟨_,rfl⟩
 rw [← hW]
 obtain ⟨gE,hgE⟩:∃ g,g = w1.heap.size:=⟨_,rfl⟩
 rw [← hgE]
 have kE:Blk W gE 193 [.int .i64 (d:Int),.int .i64 (l:Int),.int .i64 (m:Int)]:=by rw [hW,hgE];exact Blk.new _ _ _
 have bW:Below w.heap.size w W:=by rw [hW];exact b1.alloc b1.size _
 have rW:=hr.below bW
 clear hW hgE b1 hr mE cF HE
 obtain ⟨V,hV⟩:∃ V,V = World.drew W:=⟨_,rfl⟩
 have b_0:Below W.heap.size W V:=by rw [hV];exact (Below.refl _ _).drew
 have keep:Hid (∀ {x},Below W.heap.size W x → Blk x gE 193 [.int .i64 (d:Int),.int .i64 (l:Int),.int .i64 (m:Int)] ∧ RowAt x (some ⟨b,o,none⟩) rest):=fun h=>⟨kE.below h kE.lt,rW.below h⟩
 refine wp_region_held_drew (S:=fun x=>Blk x gE 193 [.int .i64 (d:Int),.int .i64 (l:Int),.int .i64 (m:Int)] ∧ RowAt x (some ⟨b,o,none⟩) rest) (by kernel_rfl) (by rw [← hV];exact keep.out b_0) (fun hHeld=>?_)
 rw [← hV] at hHeld ⊢
 clear hV
 refine tk (i:=0) (v:=(.agg #[.int .i64 (d:Int),.int .i64 (l:Int),.int .i64 (m:Int)])) rfl (Or.inl ⟨by rfl,fun w1 h=>by have hc0:=h.1.cell 0 (by simp);have hc1:=h.1.cell 1 (by simp);have hc2:=h.1.cell 2 (by simp);go_simp⟩) hHeld ?_
 try dsimp only [Act.put]
 refine tkA (i:=1) (v:=(.slice (some ⟨b,o,none⟩) N cap)) rfl hHeld ?_
 dsimp only [Act.put,List.getElem_toArray,List.getElem_cons_zero,List.getElem_cons_succ]
 simp only [List.setIfInBounds_toArray,List.set_cons_succ,List.set_cons_zero]
 refine tkA (i:=2) (v:=(.pointer (some ⟨gE,0,none⟩))) rfl hHeld ?_
 try dsimp only [Act.put]
 refine tk (i:=3) (v:=(.int .i64 (d:Int))) rfl (Or.inl ⟨by rfl,fun w1 h=>by have hc0:=h.1.cell 0 (by simp);go_simp⟩) hHeld ?_
 dsimp only [Act.put,List.getElem_toArray,List.getElem_cons_zero,List.getElem_cons_succ]
 simp only [List.setIfInBounds_toArray,List.set_cons_succ,List.set_cons_zero]
 refine tkA (i:=4) (v:=(.slice (some ⟨b,o,none⟩) d cap)) rfl hHeld ?_
 try dsimp only [Act.put]
 refine tk (i:=5) (v:=(.string HS)) rfl (Or.inl ⟨by rfl,fun w1 h=>by have hc:=HCV.out w1 h.2;go_simp⟩) hHeld ?_
 dsimp only [Act.put,List.getElem_toArray,List.getElem_cons_zero,List.getElem_cons_succ]
 simp only [List.setIfInBounds_toArray,List.set_cons_succ,List.set_cons_zero]
 refine rdy1 6 (fun K hK=>?_)
 go_simp
 refine (HSZ.out _).mono ?_
 rintro e w_1 ⟨rfl,bel_1⟩
 have b_1:=b_0.trans (bel_1.mono (by have:=b_0.size;omega))
 go_wp2_with fail
 refine hK.out _ _ (keep.out b_1) (fun hHeld=>?_)
 clear hK K
 try dsimp only [Act.put]
 refine tkA (i:=7) (v:=(.tuple #[.int .i64 (z:Int),.bool q])) rfl hHeld ?_
 try dsimp only [Act.put]
 refine tkA (i:=8) (v:=(.int .i64 (z:Int))) rfl hHeld ?_
 dsimp only [Act.put,List.getElem_toArray,List.getElem_cons_zero,List.getElem_cons_succ]
 simp only [List.setIfInBounds_toArray,List.set_cons_succ,List.set_cons_zero]
 refine tkA (i:=9) (v:=(.bool q)) rfl hHeld ?_
 try dsimp only [Act.put]
 refine rdy1 10 (fun K hK=>?_)
 go_simp
 refine hK.out _ _ (keep.out b_1) (fun hHeld=>?_)
 clear hK K
 try dsimp only [Act.put]
 refine rdy1 11 (fun K hK=>?_)
 go_simp
 refine hK.out _ _ (keep.out b_1) (fun hHeld=>?_)
 clear hK K
 try dsimp only [Act.put]
 refine wpAnyH_done (by kernel_rfl) ?_ _
 clear hHeld
 have bw:=bW.trans (b_1.mono bW.size)
 have kE1:=kE.below b_1 kE.lt
 have rW1:=rW.below b_1
 have e0:=kE1.cell 0 (by simp)
 clear b_0 b_1 bel_1 kE rW bW keep HCV HSZ
 cases q
 · rw [if_pos rfl] at HR
   obtain ⟨rc,rd,re⟩:=HR.out
   rw [rc] at rd re
   rw [if_neg (by decide)] at rd re
   subst rc rd re
   go_wp2_with fail
   go_ret3
   exact ⟨_,rfl,own_nilI _ _,bw⟩
 rw [if_neg (by decide)] at HR
 by_cases h2:N < E
 · rw [if_pos h2] at HR
   obtain ⟨rc,rd,re⟩:=HR.out
   rw [rc] at rd re
   rw [if_neg (by decide)] at rd re
   subst rc rd re
   have h2I:(N:Int) < (E:Int):=by omega
   go_wp2_with fail
   go_ret3
   exact ⟨_,rfl,own_nilI _ _,bw⟩
 rw [if_neg h2] at HR
 have h2I:¬ (N:Int) < (E:Int):=by omega
 have hNc:N ≤ cap:=by have:=HN.out;omega
 have hEc:(E:Int) ≤ (cap:Int):=by omega
 have hE0:(0:Int) ≤ (E:Int):=by omega
 have hheld:((rest.drop d).take z).length = E - d:=by
   have e1:=HN.out
   have e2:=HE2.out
   rw [List.length_take,List.length_drop]
   omega
 have hE4:E ≤ 4096:=by have:=HN.out;omega
 obtain ⟨held,hh⟩:∃ c,c = (rest.drop d).take z:=⟨_,rfl⟩
 have HFH:=hideT (fun (ao:Option Addr) (c:Nat) (wx:World) (q1:RowAt wx ao held)=>HFT.out held ao c wx (by rw [hh,hheld];omega) q1)
 by_cases hcd:cap = d
 · have hl0:held = []:=by
     have e1:=HN.out
     have e2:=HE2.out
     apply List.length_eq_zero_iff.1
     rw [hh,hheld]
     omega
   rw [← hh] at HR
   rw [← hh] at hheld
   have HCL:=hideT (clone_any held ⟨b,o,none⟩ 0 w_1 (by rw [hl0];simp) (by rw [hl0];exact .inl rfl))
   rw [hheld] at HCL
   clear hh HFT HE2 hl0
   go_wp2_with fail
   refine (HCL.out).mono ?_
   rintro e w2 ⟨v,rfl,own,b2⟩
   obtain ⟨ah,ch,rfl,rh,-,-,-⟩:=own.shape
   rw [hheld]
   have bw2:=bw.trans (b2.mono bw.size)
   have HO:=hideT (own.monoI bw.size)
   rw [hheld] at HO
   have HFX:=hideT (HFH.out ah ch w2 rh)
   clear own HCL rh HFH b2
   obtain ⟨fq,hfq⟩:∃ c,c = fitsN l m ok held:=⟨_,rfl⟩
   rw [hheld] at HFX
   rw [← hfq] at HFX HR
   clear hfq
   go_wp2_with fail
   refine HFX.out.mono ?_
   rintro e w3 ⟨rfl,b3⟩
   have bw3:=bw2.trans (b3.mono bw2.size)
   have HO3:=hideT (HO.out.below b3)
   clear HO b3 HFX
   cases fq
   · rw [if_neg (by decide)] at HR
     obtain ⟨rc,rd,re⟩:=HR.out
     rw [rc] at rd re
     rw [if_neg (by decide)] at rd re
     subst rc rd re
     go_wp2_with fail
     go_ret3
     exact ⟨_,rfl,own_nilI _ _,bw3⟩
   · rw [if_pos rfl] at HR
     obtain ⟨rc,rd,re⟩:=HR.out
     rw [rc] at rd re
     rw [if_pos rfl] at rd re
     subst rc rd re
     go_wp2_with fail
     go_ret3
     exact ⟨_,rfl,HO3.out,bw3⟩
 · have HCL:=hideT (clone_any ((rest.drop d).take z) ⟨b,o + d,none⟩ (cap - d) w_1 (by rw [hheld];omega) ((RowAt.drop rW1 d).take z))
   rw [hheld] at HCL
   rw [← hh] at HCL HR
   rw [← hh] at hheld
   clear hh HFT HE2
   go_wp2_with fail
   refine (HCL.out).mono ?_
   rintro e w2 ⟨v,rfl,own,b2⟩
   obtain ⟨ah,ch,rfl,rh,-,-,-⟩:=own.shape
   rw [hheld]
   have bw2:=bw.trans (b2.mono bw.size)
   have HO:=hideT (own.monoI bw.size)
   rw [hheld] at HO
   have HFX:=hideT (HFH.out ah ch w2 rh)
   clear own HCL rh HFH b2
   obtain ⟨fq,hfq⟩:∃ c,c = fitsN l m ok held:=⟨_,rfl⟩
   rw [hheld] at HFX
   rw [← hfq] at HFX HR
   clear hfq
   go_wp2_with fail
   refine HFX.out.mono ?_
   rintro e w3 ⟨rfl,b3⟩
   have bw3:=bw2.trans (b3.mono bw2.size)
   have HO3:=hideT (HO.out.below b3)
   clear HO b3 HFX
   cases fq
   · rw [if_neg (by decide)] at HR
     obtain ⟨rc,rd,re⟩:=HR.out
     rw [rc] at rd re
     rw [if_neg (by decide)] at rd re
     subst rc rd re
     go_wp2_with fail
     go_ret3
     exact ⟨_,rfl,own_nilI _ _,bw3⟩
   · rw [if_pos rfl] at HR
     obtain ⟨rc,rd,re⟩:=HR.out
     rw [rc] at rd re
     rw [if_pos rfl] at rd re
     subst rc rd re
     go_wp2_with fail
     go_ret3
     exact ⟨_,rfl,HO3.out,bw3⟩
end Go.Proofs.YtbkokcjolanpeaaGreatDoor
