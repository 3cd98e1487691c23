import Derived.Test.YtbkokcjolanpeaaGreatDoorMkZ
import Derived.Shelf.Strconv.Itoa3
import Derived.Shelf.LaysM
import Derived.Shelf.Strings.BuilderK
import Derived.Shelf.Strings.Repeat
import Derived.Test.YtbkokcjolanpeaaGreatDoorProg
import Derived.Lib.AppendStr
import Derived.Laws.OwnMore
set_option maxRecDepth 100000
set_option maxHeartbeats 10000000
namespace Go.Proofs.YtbkokcjolanpeaaGreatDoor
open Go.RowKit Go.Proofs.Tryz Act
def BX (l:LU) (k:Nat):LU:=l.set (k / 8) (UInt8.ofNat ((l.getD (k / 8) 0).toNat ||| 2 ^ (7 - k % 8)))
theorem Ei (l:LU) (k:Nat):(BX l k).length = l.length:=by unfold BX;simp
theorem Mo (l:LU) (b u t k:Nat) (w:World) (hn:l.length <= 1048576) (hk:k < 8 * l.length) (C:Blk w b t (l.map byte)) :
 Calls prog 54 #[.slice (some ⟨b,0,none⟩) l.length u,.int .i64 ((k + 1:Nat):Int)] w fun e w'=>e = .returned (.tuple #[]) /\ Blk w' b t ((BX l k).map byte) /\ w.grownBy w' (some b) /\ w'.heap.size = w.heap.size:=by
 obtain ⟨n,A⟩:=uX (l.length);obtain ⟨j,F⟩:=uX (k / 8);obtain ⟨r,o⟩:=uX (k % 8);obtain ⟨x,q⟩:=uX ((l.getD j 0).toNat);have z:x < 256:=by rw [q];exact QW _
 obtain ⟨s,g⟩:=uX (2 ^ (7 - r));have p:s < 256:=by rw [g];exact QX (Nat.pow_lt_pow_right (by omega) (show 7 - r < 8 by omega)) (QE _)
 obtain ⟨y,d⟩:=uX (x ||| s);have I:bits BinOp.or IntKind.u8 (x:Int) (s:Int) = (y:Int):=by rw [d];exact u8_or_nat x s z p
 obtain ⟨m,H⟩:=uX (k + 1);have a2:IntKind.i64.wrap ((m:Int) - 1) = (k:Int):=by rw [QH];omega
 have R:(k:Int) / 8 = (j:Int):=by omega
 have a0:(k:Int).tdiv 8 = (j:Int):=by rw [Int.tdiv_eq_ediv_of_nonneg (Int.natCast_nonneg _)];exact R
 have W:IntKind.i64.wrap (j:Int) = (j:Int):=by rw [QH];omega
 have v:(k:Int) % 8 = (r:Int):=by omega
 have E:(k:Int).tmod 8 = (r:Int):=by rw [Qk (Int.natCast_nonneg _)];exact v
 have X:j < n:=by omega
 have Y:(j:Int) < (n:Int):=by omega
 have a1:r < 8:=by omega
 have Z:(128:Int) / 2 ^ r = (s:Int):=by
  rw [g];clear g p d I E v o;have:r = 0 \/ r = 1 \/ r = 2 \/ r = 3 \/ r = 4 \/ r = 5 \/ r = 6 \/ r = 7:=by omega
  rcases this with rfl | rfl | rfl | rfl | rfl | rfl | rfl | rfl <;> rfl
 have O:w.cell? ⟨b,j,none⟩ = some (.int .u8 (x:Int)):=by
  rw [C.cell j (by rw [QD];omega)];have J:j < l.length:=by omega
  rw [List.getElem_map,q,QA,List.getElem?_eq_getElem J]
  rfl
 have U:=C.free j;have B:Hid ((l.map byte).set j (.int .u8 (y:Int)) = (BX l k).map byte):=by
  show _ = _;unfold BX;rw [qP,<- F,<- q,<- o,<- g,<- d]
  congr 1
  unfold byte;rw [Qb];have G:y < 256:=by rw [d];exact qO (n:=8) z p
  rw [qF G]
 rw [<- A,<- H];clear A F o q g d H;go_enter func54,ntmps54;go_upto_region 0 with fail
 obtain ⟨V,c⟩:=uX (World.drew w);have N:Blk V b t (l.map byte):=by rw [c];exact C.drew1
 have L:V.cell? ⟨b,j,none⟩ = some (.int .u8 (x:Int)):=by rw [c];exact O
 have fV:V.frozen? ⟨b,j,none⟩ = false:=by rw [c];exact U
 have M:w.grownBy V (some b):=by rw [c];exact ES (grown_of_below (Below.refl _ _) _)
 have T:V.heap.size = w.heap.size:=by rw [c];rfl
 have f:Hid (∀ {P:Prop},P -> True):=fun _=>trivial;refine QJ (S:=fun _=>True) (by kernel_rfl) trivial (fun a=>?_);rw [<- c];clear c;refine tA 0 (.slice (some ⟨b,0,none⟩) n u) a ?_;simp only [put,pS];refine tA 1 (.int .i64 (m:Int)) a ?_;simp only [put,pS];refine tA 2 (.int .i64 (k:Int)) a ?_;simp only [put,pS];refine tA 3 (.int .i64 (j:Int)) a ?_;simp only [put,pS];refine tA 4 (.pointer (some ⟨b,j,none⟩)) a ?_;simp only [put,pS];refine tA 6 (.int .i64 (m:Int)) a ?_;simp only [put,pS];refine tA 7 (.int .i64 (k:Int)) a ?_;simp only [put,pS];refine tA 8 (.int .i64 (r:Int)) a ?_;simp only [put,pS];refine tA 9 (.int .u8 (s:Int)) a ?_;simp only [put,pS];refine rdy1 5 (fun K i=>?_);go_simp;refine i.out _ _ (f.out L) (fun a=>?_);clear i K
 try dsimp only [put]
 refine tA 10 (.int .u8 (y:Int)) a ?_;simp only [put,pS];refine tA 11 (.pointer (some ⟨b,j,none⟩)) a ?_;simp only [put,pS];refine rdy1 12 (fun K i=>?_);go_simp;refine i.out _ _ (f.out L) (fun a=>?_);clear i K
 try dsimp only [put]
 refine QM (by kernel_rfl) ?_ _;have D:=N.set j (.int .u8 (y:Int));rw [show (l.map byte).set j (.int .u8 (y:Int)) = _ from B] at D;refine bodyPost_end (results_none rfl _ _ _) rfl ⟨rfl,D,grown_trans M (Ap V ⟨b,j,none⟩ (.int .u8 (y:Int))),?_⟩;rw [<- T];simp
end Go.Proofs.YtbkokcjolanpeaaGreatDoor
namespace Go.Proofs
open Go.Shelf
def Tryz.laysM171_ren:Go.Shelf.Ren:=⟨fun | 171=>154 | 243=>183 | 246=>217 | 283=>235 | 284=>236 | 285=>237 | 286=>238 | 129=>260 | 317=>259 | 318=>261 | 319=>262 | 320=>263 | 337=>270 | 338=>271 | n=>n,fun | 3=>3 | 9=>9 | 2=>2 | 4=>4 | 171=>349 | 0=>0 | 53=>198 | 37=>22 | 5=>5 | 173=>352 | 212=>370 | 51=>246 | 20=>20 | 213=>371 | 46=>103 | 232=>356 | 233=>294 | n=>n,fun | 17=>5 | 18=>8 | 19=>9 | n=>n⟩
theorem Tryz.laysM171:Go.Proofs.LaysM.n171 Tryz.prog Tryz.laysM171_ren:={
 mixed:=by kernel_rfl
 f129:=Tryz.func260.trans (congrArg some (by kernel_rfl))
 f171:=Tryz.func154.trans (congrArg some (by kernel_rfl))
 f243:=Tryz.func183.trans (congrArg some (by kernel_rfl))
 f246:=Tryz.func217.trans (congrArg some (by kernel_rfl))
 f283:=Tryz.func235.trans (congrArg some (by kernel_rfl))
 f284:=Tryz.func236.trans (congrArg some (by kernel_rfl))
 f285:=Tryz.func237.trans (congrArg some (by kernel_rfl))
 f286:=Tryz.func238.trans (congrArg some (by kernel_rfl))
 f317:=Tryz.func259.trans (congrArg some (by kernel_rfl))
 f318:=Tryz.func261.trans (congrArg some (by kernel_rfl))
 f319:=Tryz.func262.trans (congrArg some (by kernel_rfl))
 f320:=Tryz.func263.trans (congrArg some (by kernel_rfl))
 f337:=Tryz.func270.trans (congrArg some (by kernel_rfl))
 f338:=Tryz.func271.trans (congrArg some (by kernel_rfl))
 t0:=Tryz.underlying0
 a0:=Tryz.isAgg0
 z0:=Tryz.sizeOf0
 v0:=Tryz.zeroValue0
 t2:=Tryz.underlying2
 a2:=Tryz.isAgg2
 z2:=Tryz.sizeOf2
 v2:=Tryz.zeroValue2
 t3:=Tryz.underlying3
 a3:=Tryz.isAgg3
 z3:=Tryz.sizeOf3
 v3:=Tryz.zeroValue3
 t4:=Tryz.underlying4
 a4:=Tryz.isAgg4
 z4:=Tryz.sizeOf4
 v4:=Tryz.zeroValue4
 t5:=Tryz.underlying5
 a5:=Tryz.isAgg5
 z5:=Tryz.sizeOf5
 v5:=Tryz.zeroValue5
 t9:=Tryz.underlying9
 a9:=Tryz.isAgg9
 z9:=Tryz.sizeOf9
 v9:=Tryz.zeroValue9
 t20:=Tryz.underlying20
 a20:=Tryz.isAgg20
 z20:=Tryz.sizeOf20
 v20:=Tryz.zeroValue20
 t37:=Tryz.underlying22
 a37:=Tryz.isAgg22
 z37:=Tryz.sizeOf22
 v37:=Tryz.zeroValue22
 t46:=Tryz.underlying103
 a46:=Tryz.isAgg103
 z46:=Tryz.sizeOf103
 v46:=Tryz.zeroValue103
 t51:=Tryz.underlying246
 a51:=Tryz.isAgg246
 z51:=Tryz.sizeOf246
 v51:=Tryz.zeroValue246
 t53:=Tryz.underlying198
 a53:=Tryz.isAgg198
 z53:=Tryz.sizeOf198
 v53:=Tryz.zeroValue198
 t171:=Tryz.underlying349
 a171:=Tryz.isAgg349
 z171:=Tryz.sizeOf349
 v171:=Tryz.zeroValue349
 t173:=Tryz.underlying352
 a173:=Tryz.isAgg352
 z173:=Tryz.sizeOf352
 v173:=Tryz.zeroValue352
 t212:=Tryz.underlying370
 a212:=Tryz.isAgg370
 z212:=Tryz.sizeOf370
 v212:=Tryz.zeroValue370
 t213:=Tryz.underlying371
 a213:=Tryz.isAgg371
 z213:=Tryz.sizeOf371
 t232:=Tryz.underlying356
 a232:=Tryz.isAgg356
 z232:=Tryz.sizeOf356
 v232:=Tryz.zeroValue356
 t233:=Tryz.underlying294
 a233:=Tryz.isAgg294
 z233:=Tryz.sizeOf294
 v233:=Tryz.zeroValue294
 g17:=by kernel_rfl
 g18:=by kernel_rfl
 g19:=by kernel_rfl
 i0:=by kernel_rfl
 i2:=by kernel_rfl
 i3:=by kernel_rfl
 i4:=by kernel_rfl
 i5:=by kernel_rfl
 i9:=by kernel_rfl
 i20:=by kernel_rfl
 i37:=by kernel_rfl
 i46:=by kernel_rfl
 i51:=by kernel_rfl
 i53:=by kernel_rfl
 i171:=by kernel_rfl
 i173:=by kernel_rfl
 i212:=by kernel_rfl
 i232:=by kernel_rfl
 i233:=by kernel_rfl
 m17:=by kernel_rfl
 m18:=by kernel_rfl
 m19:=by kernel_rfl }
open Go.RowKit Go.Sort Go.Lib in
theorem Tryz.strconv_Itoa (n:Int) (b:-9223372036854775808 <= n) (c:n <= 9223372036854775807) (w:World) (a:Lib.TabIs Tryz.prog w "internal/strconv.uint64pow10" .u64 Lib.pow10Tab) :
 Calls Tryz.prog 154 #[.int .i64 n] w fun e w'=>e = .returned (.string ⟨(Lib.itoa n).toArray⟩) /\ ∃ k os,w' = grow (w.drewN k) os:=Any.strconv_Itoa Tryz.laysM171 n b c w a
def Tryz.lays105_ren:Go.Shelf.Ren:=⟨fun | 105=>155 | 212=>184 | 99=>162 | 165=>185 | 166=>186 | 170=>187 | 169=>188 | 263=>218 | 264=>219 | 206=>198 | 240=>220 | 241=>221 | 276=>239 | 277=>240 | n=>n,fun | 9=>9 | 3=>3 | 4=>4 | 20=>20 | 0=>0 | 46=>103 | 109=>284 | 5=>5 | 72=>288 | 76=>282 | 51=>246 | 146=>314 | 53=>198 | 148=>316 | 70=>286 | 37=>22 | 75=>75 | 127=>318 | 164=>354 | 80=>289 | n=>n,fun | n=>n⟩
theorem Tryz.lays105:Go.Proofs.Lays.n105 Tryz.prog Tryz.lays105_ren:={
 mixed:=by kernel_rfl
 f99:=Tryz.func162.trans (congrArg some (by kernel_rfl))
 f105:=Tryz.func155.trans (congrArg some (by kernel_rfl))
 f165:=Tryz.func185.trans (congrArg some (by kernel_rfl))
 f166:=Tryz.func186.trans (congrArg some (by kernel_rfl))
 f169:=Tryz.func188.trans (congrArg some (by kernel_rfl))
 f170:=Tryz.func187.trans (congrArg some (by kernel_rfl))
 f206:=Tryz.func198.trans (congrArg some (by kernel_rfl))
 f212:=Tryz.func184.trans (congrArg some (by kernel_rfl))
 f240:=Tryz.func220.trans (congrArg some (by kernel_rfl))
 f241:=Tryz.func221.trans (congrArg some (by kernel_rfl))
 f263:=Tryz.func218.trans (congrArg some (by kernel_rfl))
 f264:=Tryz.func219.trans (congrArg some (by kernel_rfl))
 f276:=Tryz.func239.trans (congrArg some (by kernel_rfl))
 f277:=Tryz.func240.trans (congrArg some (by kernel_rfl))
 t0:=Tryz.underlying0
 a0:=Tryz.isAgg0
 z0:=Tryz.sizeOf0
 v0:=Tryz.zeroValue0
 t3:=Tryz.underlying3
 a3:=Tryz.isAgg3
 z3:=Tryz.sizeOf3
 v3:=Tryz.zeroValue3
 t4:=Tryz.underlying4
 a4:=Tryz.isAgg4
 z4:=Tryz.sizeOf4
 v4:=Tryz.zeroValue4
 t5:=Tryz.underlying5
 a5:=Tryz.isAgg5
 z5:=Tryz.sizeOf5
 v5:=Tryz.zeroValue5
 t9:=Tryz.underlying9
 a9:=Tryz.isAgg9
 z9:=Tryz.sizeOf9
 v9:=Tryz.zeroValue9
 t20:=Tryz.underlying20
 a20:=Tryz.isAgg20
 z20:=Tryz.sizeOf20
 v20:=Tryz.zeroValue20
 t37:=Tryz.underlying22
 a37:=Tryz.isAgg22
 z37:=Tryz.sizeOf22
 v37:=Tryz.zeroValue22
 t46:=Tryz.underlying103
 a46:=Tryz.isAgg103
 z46:=Tryz.sizeOf103
 v46:=Tryz.zeroValue103
 t51:=Tryz.underlying246
 a51:=Tryz.isAgg246
 z51:=Tryz.sizeOf246
 v51:=Tryz.zeroValue246
 t53:=Tryz.underlying198
 a53:=Tryz.isAgg198
 z53:=Tryz.sizeOf198
 v53:=Tryz.zeroValue198
 t70:=Tryz.underlying286
 a70:=Tryz.isAgg286
 z70:=Tryz.sizeOf286
 v70:=Tryz.zeroValue286
 t72:=Tryz.underlying288
 a72:=Tryz.isAgg288
 z72:=Tryz.sizeOf288
 v72:=Tryz.zeroValue288
 t75:=Tryz.underlying75
 a75:=Tryz.isAgg75
 z75:=Tryz.sizeOf75
 v75:=Tryz.zeroValue75
 t76:=Tryz.underlying282
 a76:=Tryz.isAgg282
 z76:=Tryz.sizeOf282
 v76:=Tryz.zeroValue282
 t109:=Tryz.underlying284
 a109:=Tryz.isAgg284
 z109:=Tryz.sizeOf284
 v109:=Tryz.zeroValue284
 t127:=Tryz.underlying318
 a127:=Tryz.isAgg318
 z127:=Tryz.sizeOf318
 v127:=Tryz.zeroValue318
 t146:=Tryz.underlying314
 a146:=Tryz.isAgg314
 z146:=Tryz.sizeOf314
 v146:=Tryz.zeroValue314
 t148:=Tryz.underlying316
 a148:=Tryz.isAgg316
 z148:=Tryz.sizeOf316
 v148:=Tryz.zeroValue316
 t164:=Tryz.underlying354
 a164:=Tryz.isAgg354
 z164:=Tryz.sizeOf354
 v164:=Tryz.zeroValue354 }
theorem Tryz.Builder_Extra_105:Builder.Extra Tryz.prog Tryz.lays105_ren:={
 sizeBuilder:=by kernel_rfl
 liesBuilder:=by kernel_rfl
 t5:=Tryz.underlying5
 a5:=Tryz.isAgg5
 z5:=Tryz.sizeOf5
 v5:=Tryz.zeroValue5
 infoByte:=by kernel_rfl
 cellsByte:=by kernel_rfl
 sizeByte:=by kernel_rfl
 neB5:=by decide }
open Go.RowKit Go.Lib in
theorem Tryz.strings_Repeat (s:ByteArray) (c:Nat) (w:World) (b:c <= 9223372036854775807) (a:s.size * c <= 140737488355328) :
 Calls Tryz.prog 155 #[.string s,.int .i64 c] w fun e w'=>e = .returned (.string ⟨(Lib.repeatL s.data.toList c).toArray⟩) /\ Below w.heap.size w w':=Any.strings_Repeat Tryz.lays105 Tryz.Builder_Extra_105 s c w b a
end Go.Proofs
namespace Go.Proofs.YtbkokcjolanpeaaGreatDoor
open Go.RowKit Go.Proofs.Tryz Act
def An:Nat -> Nat -> LU
 | 0,_=>[]
 | d + 1,n=>An d (n / 10) ++ [UInt8.ofNat (48 + n % 10)]
theorem CX:∀ d n,(An d n).length = d
 | 0,_=>rfl
 | d + 1,n=>by unfold An;rw [QC,CX d];rfl
theorem Sg (c:Nat):Lib.repeatL [48] (c + 1) = Lib.repeatL [48] c ++ [48]:=by
 induction c with
 | zero=>rfl
 | succ c ih=>show 48 :: Lib.repeatL [48] (c + 1) = 48 :: (Lib.repeatL [48] c ++ [48]);rw [ih]
theorem OF:∀ d,An d 0 = Lib.repeatL [48] d
 | 0=>rfl
 | d + 1=>by unfold An;rw [show 0 / 10 = 0 from rfl,OF d,Sg];rfl
theorem ba:∀ d n,n < 10 ^ (d + 1) -> (Lib.decDigits n).length <= d + 1 /\ Lib.repeatL [48] (d + 1 - (Lib.decDigits n).length) ++ Lib.decDigits n = An (d + 1) n:=by
 intro d
 induction d with
 | zero =>
   intro n a;have h:n < 10:=by simpa using a
   rw [Lib.decDigits,dif_pos h];refine ⟨QE _,?_⟩;show [] ++ _ = An 0 (n / 10) ++ [UInt8.ofNat (48 + n % 10)];rw [qF h]
   rfl
 | succ d ih =>
   intro n a
   by_cases h:n < 10
   ·rw [Lib.decDigits,dif_pos h];refine ⟨by simp,?_⟩;show Lib.repeatL [48] (d + 1) ++ [UInt8.ofNat (48 + n)] = An (d + 1) (n / 10) ++ [UInt8.ofNat (48 + n % 10)];rw [qF h,Nat.div_eq_of_lt h,OF]
   ·have b:n / 10 < 10 ^ (d + 1):=by rw [Nat.pow_succ] at a;omega
    obtain ⟨f,c⟩:=ih (n / 10) b;rw [Lib.decDigits,dif_neg h,QC];refine ⟨by simp;omega,?_⟩;show _ = An (d + 1) (n / 10) ++ [UInt8.ofNat (48 + n % 10)];rw [<- c,<- QV]
    congr 2
    simp
theorem KF (N d:Nat) (w:World) (f:Lib.TabIs prog w "internal/strconv.uint64pow10" .u64 Lib.pow10Tab) (T:d <= 6) (F:N < 10 ^ (d + 1)) :
 Calls prog 103 #[.int .i64 (N:Int),.int .i64 ((d + 1:Nat):Int)] w fun e w'=>e = .returned (.string ⟨(An (d + 1) N).toArray⟩) /\ Bl w w':=by
 obtain ⟨z,i⟩:=ba d N F;have R:N < 10000000:=QX F (QG (qo (by omega) (show d + 1 <= 7 by omega)) (QE _));have k:=AA (Tryz.strconv_Itoa (N:Int) (by omega) (by omega) w f);have p:Lib.itoa (N:Int) = Lib.decDigits N:=by unfold Lib.itoa;rw [if_neg (by omega)];rfl
 rw [p] at k;obtain ⟨b,l⟩:=uX (Lib.decDigits N);rw [<- l] at k z i;have c:=AA (fun (x:World)=>Tryz.strings_Repeat ⟨#[48]⟩ (d + 1 - b.length) x (by omega) (by show 1 * _ <= _;omega));obtain ⟨E,n⟩:=uX (d + 1 - b.length);rw [<- n] at c i;have m:(⟨b.toArray⟩:ByteArray).size = b.length:=by simp [ByteArray.size]
 have q:IntKind.i64.wrap (((d + 1:Nat):Int) - ((⟨b.toArray⟩:ByteArray).size:Int)) = (E:Int):=by rw [m,QH];omega
 obtain ⟨a,o⟩:=uX (d + 1);rw [<- o] at q i ⊢;have O:a <= 7:=by omega
 have L:=AA i;obtain ⟨S,y⟩:∃ s:ByteArray,s = ⟨b.toArray⟩:=⟨_,rfl⟩;rw [<- y] at k q;have HS:=AA y;clear l n m o y z i p f;go_enter func103,ntmps103;go_wp2_with fail;refine k.out.mono ?_;rintro e H ⟨rfl,U,t,r⟩;have D:Bl w H:=by
  rw [r];exact ⟨rfl,rfl,rfl,by show w.heap.size <= (w.heap ++ t).size;simp,fun j G=>by show (w.heap ++ t)[j]? = w.heap[j]?;rw [Array.getElem?_append_left G]⟩
 clear r k;obtain ⟨A,v⟩:∃ s:ByteArray,s = ⟨(Lib.repeatL [48] E).toArray⟩:=⟨_,rfl⟩;rw [<- v] at c;have g:A ++ S = ⟨(An a N).toArray⟩:=by
  rw [v,show S = _ from HS,<- show _ = An a N from L];apply ByteArray.ext;simp
 have u:A.size + S.size <= 9223372036854775807:=by
  have h:=congrArg ByteArray.size g;have J:(⟨(An a N).toArray⟩:ByteArray).size = a:=by rw [show (⟨(An a N).toArray⟩:ByteArray).size = (An a N).length from by simp [ByteArray.size],CX]
  rw [J,ByteArray.size_append] at h;omega
 have B:=AA g;clear v g;have M:=fun (x:World)=>run_string_add_sum (P:=prog) x A S u;go_wp2_with fail;refine (c.out _).mono ?_;rintro e w2 ⟨rfl,I⟩;have C:=D.trans (I.mono D.size);go_wp2_with fail;go_ret;exact ⟨by rw [<- show A ++ S = _ from B];rfl,C⟩
theorem PI {T:Nat} {x r:Value} {s d l m:Nat} {o:UInt8 -> Bool} {q:LU -> Nat} {v:LU -> Bool} (K:Kd T x r s d l m o q v) (N:Nat) (t:Option Addr) (g:Nat) (w:World) (c:∀ w',Bl w w' -> Lib.TabIs prog w' "internal/strconv.uint64pow10" .u64 Lib.pow10Tab) (n:N < 10 ^ d \/ d = 0) :
 Calls prog 55 #[.iface T x,.slice t N g] w fun e w'=>e = .returned (.string ⟨(An d N).toArray⟩) /\ Bl w w':=by
 have mE:=K.mE;have cF:=K.cF;have HE:=AA K.HE;have i:=K.d3;have z:=fun (a:World)=>(show (Instr.field 193 (.agg #[.int .i64 (d:Int),.int .i64 (l:Int),.int .i64 (m:Int)]) 0).run prog a = .ok (.int .i64 (d:Int)) a by kernel_rfl);have f:=AA c;clear c
 by_cases h0:d = 0
 ·have y:((d:Int) == 0) = true:=by rw [beq_iff_eq];omega
  have k:Hid (An d N = []):=by rw [h0];exact (rfl:An 0 N = [])
  clear h0 n i;go_enter func55,ntmps55;go_wp2_with fail;refine (HE.out _).mono ?_;rintro e p ⟨rfl,b⟩;go_wp2_with fail;go_ret;exact ⟨by rw [k.out];rfl,b⟩
 ·have A:¬ (d:Int) = 0:=by omega
  have j:=AA (fun (a:World) (h:Bl w a)=>KF N (d - 1) a (f.out a h) (by omega) (by rw [show d - 1 + 1 = d from by omega];omega));rw [show d - 1 + 1 = d from by omega] at j;clear n h0;go_enter func55,ntmps55;go_wp2_with fail;refine (HE.out _).mono ?_;rintro e p ⟨rfl,b⟩;go_wp2_with fail;refine (j.out _ b).mono ?_;rintro e w2 ⟨rfl,u⟩;go_wp2_with fail;go_ret;exact ⟨rfl,b.trans (u.mono b.size)⟩
theorem Ux (b:Int) (A:b < 0) (g c:Nat) (w:World) (n:Blk w g 118 tabCellsI) (j:w.cell? ⟨c,0,none⟩ = some (.int .i64 b)) :
 Calls prog 100 #[.slice (some ⟨g,0,none⟩) 14 14,.func (Fn.func 101) #[] #[.pointer (some ⟨c,0,none⟩)]] w fun e w'=>e = .returned (.int .i64 (-1)) /\ Bl w w':=by
 have D:Hid (∀ {x:World},Bl w x -> ∀ k,k < 14 -> x.cell? ⟨g,k * 2,none⟩ = some (.int .i64 (tabNos.getD k 0:Nat)) /\ x.cell? ⟨g,k * 2 + 1,none⟩ = some (IB k)):=by
  intro x l k o;have e:=NX k o;have q:=n.below l n.lt;have s:k * 2 < tabCellsI.length:=by show k * 2 < 28;omega
  have t:k * 2 + 1 < tabCellsI.length:=by show k * 2 + 1 < 28;omega
  rw [List.getElem?_eq_getElem s,List.getElem?_eq_getElem t] at e;exact ⟨(q.cell _ s).trans e.1,(q.cell _ t).trans e.2⟩
 have v:=QF w _ j;have B:Hid (∀ {x:World},Bl w x -> x.cell? ⟨c,0,none⟩ = some (.int .i64 b)):=fun l=>(l.cell (p:=⟨c,0,none⟩) v).trans j;clear n j;go_enter func100,ntmps100;go_wp2_with fail
 go_loopw [8] (fun i wr=>∃ k:Nat,k <= 14 /\ i = .int .i64 k /\ Bl w wr) (fun i _=>14 - (intOf i).toNat)
 case atStart=>exact ⟨0,QU _,rfl,Below.refl _ _⟩
 case round =>
  obtain ⟨k,o,rfl,a⟩:=hrel
  by_cases y:k < 14
  ·obtain ⟨z,u⟩:=D.out a k y;have hlt':(k:Int) < 14:=by omega
   obtain ⟨m,r⟩:=uX (tabNos.getD k 0);obtain ⟨C,f⟩:=uX (IB k);rw [<- r] at z;rw [<- f] at u;have d:=a.alloc a.size (Obj.cells #[.int .i64 (m:Int),C] 118);have E:=B.out d;clear f r;have he':¬ (m:Int) = b:=by omega
   go_wp2;go_roundw
   case rel=>exact ⟨k + 1,by omega,by go_num,d⟩
   case measure=>simp [intOf];omega
  ·have hlt':¬ (k:Int) < 14:=by omega
   go_wp2;go_ret;exact ⟨rfl,a⟩
theorem U6 (a:Int) (f:a < 0) (g:Nat) (w:World) (d:Blk w g 118 tabCellsI) :
 Calls prog 52 #[.slice (some ⟨g,0,none⟩) 14 14,.int .i64 a] w fun e w'=>e = .returned (.int .i64 (-1)) /\ Bl w w':=by
 have b:=(Below.refl w.heap.size w).alloc (QE _) (Obj.cells #[.int .i64 a] 3);have i:=AA (Ux a f g w.heap.size (w.alloc (Obj.cells #[.int .i64 a] 3)) (d.below b d.lt) ((Blk.new w 3 #[.int .i64 a]).c 0));clear d;go_enter func52,ntmps52;go_wp2_with (go_at_call 100;refine i.out.mono ?_;rintro e w2 ⟨rfl,j⟩)
 go_ret;exact ⟨rfl,b.trans (j.mono b.size)⟩
def LI (a:Int):Int:=if 0 <= a then EQ a.toNat else -1
theorem UM (a:Int) (g:Nat) (w:World) (b:Blk w g 118 tabCellsI) :
 Calls prog 52 #[.slice (some ⟨g,0,none⟩) 14 14,.int .i64 a] w fun e w'=>e = .returned (.int .i64 (LI a)) /\ Bl w w':=by
 unfold LI
 by_cases h:0 <= a
 ·rw [if_pos h];have e:=Mq a.toNat g w b;rw [Int.toNat_of_nonneg h] at e;exact e
 ·rw [if_neg h];exact U6 a (by omega) g w b
structure Fr (w:World) (v:Value) (L:List (Int × LU)):Prop where
 sh:∃ ao cap,v = .slice ao L.length cap
 at_:∀ i,i < L.length -> ∃ g o cap ai ci,v = .slice (some ⟨g,o,none⟩) L.length cap /\ w.cell? ⟨g,o + i * 2,none⟩ = some (.int .i64 (L.getD i (0,[])).1) /\ w.cell? ⟨g,o + i * 2 + 1,none⟩ = some (.slice ai (L.getD i (0,[])).2.length ci) /\ RowAt w ai (L.getD i (0,[])).2
theorem Fr.below {w w':World} {v:Value} {L:List (Int × LU)} (h:Fr w v L) (a:Bl w w'):Fr w' v L:=by
 refine ⟨h.sh,fun i k=>?_⟩;obtain ⟨g,o,b,l,j,e,c,f,r⟩:=h.at_ i k;have d:=QF w _ c;exact ⟨g,o,b,l,j,e,(a.cell (p:=⟨g,o + i * 2,none⟩) d).trans c,(a.cell (p:=⟨g,o + i * 2 + 1,none⟩) d).trans f,r.below a⟩
def bef (L:List (Int × LU)):Nat -> Int
 | 0=>0
 | i + 1=>(L.getD i (0,[])).1
def inZ (a:Int):Bool:=decide (0 <= a) && decide (a.toNat ∈ tabNos)
def JQ (a:Int) (d:LU):Bool:=inZ a && Ag (kpL a.toNat) (kpM a.toNat) (Dc a.toNat) d
def okF (b:Int) (p:Int × LU):Bool:=decide (b < p.1) && JQ p.1 p.2
def okL (L:List (Int × LU)):Bool:=(List.range L.length).all (fun j=>okF (bef L j) (L.getD j (0,[])))
theorem XB (L:List (Int × LU)) (i:Nat) (a:i < L.length) (h:okF (bef L i) (L.getD i (0,[])) = false):okL L = false:=by
 unfold okL;rw [List.all_eq_false];exact ⟨i,List.mem_range.2 a,by rw [h];decide⟩
theorem Ns (L:List (Int × LU)) (h:∀ i,i < L.length -> okF (bef L i) (L.getD i (0,[])) = true):okL L = true:=by
 unfold okL;rw [Qt];intro i a;exact h i (List.mem_range.1 a)
theorem YC (a:Int) (h:inZ a = false):Bh a = (0,0):=by
 unfold inZ at h
 by_cases h0:0 <= a
 ·have b:a.toNat ∉ tabNos:=by simpa [h0] using h
  have e:a = ((a.toNat:Nat):Int):=(Int.toNat_of_nonneg h0).symm
  generalize a.toNat = n at e b
  subst e;simp only [tabNos,qx,qd,or_false,not_or] at b;obtain ⟨p,l,j,s,k,o,r,m,q,g,i,c,d,f⟩:=b;unfold Bh;rw [if_neg (by omega),if_neg (by omega),if_neg (by omega),if_neg (by omega),if_neg (by omega),if_neg (by omega),if_neg (by omega),if_neg (by omega),if_neg (by omega),if_neg (by omega),if_neg (by omega),if_neg (by omega),if_neg (by omega),if_neg (by omega)]
 ·unfold Bh;rw [if_neg (by omega),if_neg (by omega),if_neg (by omega),if_neg (by omega),if_neg (by omega),if_neg (by omega),if_neg (by omega),if_neg (by omega),if_neg (by omega),if_neg (by omega),if_neg (by omega),if_neg (by omega),if_neg (by omega),if_neg (by omega)]
theorem WF (a:Int) (h:inZ a = false) (v:Value) (w:World):Calls prog 142 #[.int .i64 a,v] w fun e w'=>e = .returned (.bool false) /\ w' = w:=by
 have d:=AA (fun (f:World)=>Dl a f);rw [YC a h] at d;clear h;go_enter func142,ntmps142;go_wp2_with (go_at_call 82;refine (d.out _).mono ?_;rintro e w2 ⟨rfl,c⟩;have b:=c.symm;subst b)
 go_ret;exact ⟨rfl,rfl⟩
theorem WD (a:Int) (d:LU) (f:Option Addr) (c:Nat) (w:World) (i:d.length <= 1048576) (g:RowAt w f d):Calls prog 142 #[.int .i64 a,.slice f d.length c] w fun e w'=>e = .returned (.bool (JQ a d)) /\ w' = w:=by
 unfold JQ;cases hz:inZ a
 ·rw [qJ];exact WF a hz _ w
 ·rw [Qp];have b:=hz;unfold inZ at b;rw [Qm,Qh,Qh] at b;have h:=JS a.toNat b.2 d f c w i g;rw [Int.toNat_of_nonneg b.1] at h;exact h
theorem UP (s:ByteArray) (L:List (Int × LU)) (hs:s.size <= maxLen) (O:∀ p ∈ L,p.2.length <= 1048576) (hL:L.length <= 2097152) (v:Value) (w:World) (F:Fr w v L) :
 Calls prog 81 #[.agg #[.string s,v]] w fun e w'=>e = .returned (.bool (decide (s.size = 4) && Bu s && (decide (L.length <= 20) && okL L))) /\ Bl w w':=by
 have I:=AA (fun (wx:World)=>F6 s 4 4 wx hs (by omega) (by omega));have e4:(decide (4 <= s.size) && decide (s.size <= 4) && Bu s) = (decide (s.size = 4) && Bu s):=by
  by_cases h:s.size = 4
  ·rw [QK h,QK (by omega),QK (by omega)];rfl
  ·rw [QT h]
   by_cases h2:4 <= s.size
   ·rw [QK h2,QT (by omega)];rfl
   ·rw [QT h2];rfl
 rw [e4] at I;obtain ⟨dg,N⟩:=uX ((decide (s.size = 4) && Bu s));rw [<- N] at I ⊢;clear N e4 hs;obtain ⟨x1,c1,rfl⟩:=F.sh;obtain ⟨n,y⟩:=uX (L.length);have HN:=AA y;rw [<- y] at hL ⊢;have F':=F;rw [<- y] at F';have a4:=AA O;have q:=AA (XB L);have r:=AA (Ns L);rw [<- y] at q r;obtain ⟨W,M⟩:=uX (w.alloc (Obj.cells #[.string s,.slice x1 n c1] 32));have kM:Blk W w.heap.size 32 [.string s,.slice x1 n c1]:=by rw [M];exact Blk.new _ _ _
 have b:=uB M;have FW:=F'.below b;have HW:=AA M;have m0:=kM.c 0;have m1:=kM.c 1;clear y O M F F';cases dg
 ·go_enter func81,ntmps81;go_upto_region 1 with fail
  rw [<- show W = _ from HW];go_wp2_with fail;refine (I.out _).mono ?_;rintro e w2 ⟨rfl,m⟩;have f:=m.symm;subst f;go_wp2_with fail;go_ret;exact ⟨rfl,b⟩
 by_cases h20:n <= 20
 ·have a3:¬ (20:Int) < (n:Int):=by omega
  rw [QK h20];obtain ⟨OK,Z⟩:=uX (okL L);rw [<- Z] at q r ⊢;clear Z;go_enter func81,ntmps81;go_upto_region 1 with fail
  rw [<- show W = _ from HW];go_wp2_with fail;refine (I.out _).mono ?_;rintro e w2 ⟨rfl,m⟩;have f:=m.symm;subst f;go_wp2_with fail
  go_loopw [3,19] (fun la i wr=>∃ k:Nat,k <= n /\ i = .int .i64 (k:Int) /\ la = .int .i64 (bef L k) /\ Hid (∀ j,j < k -> okF (bef L j) (L.getD j (0,[])) = true) /\ Bl W wr) (fun _ i _=>n - (intOf i).toNat)
  case atStart=>exact ⟨0,QU _,rfl,rfl,fun j h=>absurd h (Qj j),Below.refl _ _⟩
  case round =>
   obtain ⟨k,hk,rfl,rfl,U,x⟩:=hrel
   by_cases hlt:k < n
   ·have a2:(k:Int) < (n:Int):=by omega
    have D:k < L.length:=by rw [<- HN.out];exact hlt
    obtain ⟨g,o,cc,ai,ci,ev,p1,p2,r1⟩:=(FW.below x).at_ k D;simp only [Value.slice.injEq] at ev;obtain ⟨rfl,-,rfl⟩:=ev;have R:(L.getD k (0,[])).2.length <= 1048576:=by
     rw [QA,List.getElem?_eq_getElem D];exact a4.out _ (Qd D)
    have V:Hid (bef L (k + 1) = (L.getD k (0,[])).1):=rfl;have t:=AA (q.out k hlt);have a:Hid (okF (bef L k) (L.getD k (0,[])) = (decide (bef L k < (L.getD k (0,[])).1) && JQ (L.getD k (0,[])).1 (L.getD k (0,[])).2)):=rfl;obtain ⟨ob,E⟩:=uX (okF (bef L k) (L.getD k (0,[])));obtain ⟨z,a1⟩:=uX ((L.getD k (0,[])).1);obtain ⟨d,hd⟩:=uX ((L.getD k (0,[])).2);obtain ⟨la,T⟩:=uX (bef L k);have a5:=AA E;rw [<- E] at t a;rw [<- a1] at p1 V a;rw [<- hd] at p2 r1 R a;rw [<- T] at a ⊢;obtain ⟨Y,C⟩:=uX (wr.alloc (Obj.cells #[.int .i64 z,.slice ai d.length ci] 29));have J:Blk Y wr.heap.size 29 [.int .i64 z,.slice ai d.length ci]:=by rw [C];exact Blk.new _ _ _
    have bY:=uB C;have G:=x.trans (bY.mono x.size);have u:=AA (WD z d ai ci Y R (r1.below bY));obtain ⟨l,hl⟩:=uX (d.length);rw [<- hl] at p2 C J u;obtain ⟨fq,X⟩:=uX (JQ z d);rw [<- X] at u a;have HY:=AA C;obtain ⟨gF,B⟩:=uX (wr.heap.size);rw [<- B] at J;have a0:=AA B;clear E a1 hd T hl X C r1 B;go_upto_region 7 with fail
    rw [<- show Y = _ from HY,<- show gF = _ from a0];clear HY a0 p1 p2;have f0:=J.c 0;have f1:=J.c 1
    by_cases hle:z <= la
    ·rw [QT (by omega),qJ] at a;obtain rfl:OK = false:=t.out a.out;go_wp2_with fail;go_ret;exact ⟨rfl,b.trans (G.mono b.size)⟩
    ·rw [QK (by omega),Qp] at a;cases fq
     ·obtain rfl:OK = false:=t.out a.out;go_wp2_with fail;refine u.out.mono ?_;rintro e w5 ⟨rfl,A⟩;have H:=A.symm;subst H;go_wp2_with fail;go_ret;exact ⟨rfl,b.trans (G.mono b.size)⟩
     ·go_wp2_with fail;refine u.out.mono ?_;rintro e w5 ⟨rfl,A⟩;have H:=A.symm;subst H;go_wp2_with fail;go_roundw
      case rel=>exact ⟨k + 1,by omega,by go_num,by rw [V.out],fun j hj=>by
       by_cases hjk:j = k
       ·rw [hjk,<- a5.out];exact a.out
       ·exact U.out j (by omega),G⟩
      case measure=>simp [intOf];omega
   ·have a2:¬ (k:Int) < (n:Int):=by omega
    obtain rfl:k = n:=by omega
    obtain rfl:OK = true:=r.out (fun i hi=>U.out i hi);go_wp2_with fail;go_ret;exact ⟨rfl,b.trans (x.mono b.size)⟩
 ·have a3:(20:Int) < (n:Int):=by omega
  rw [QT h20];go_enter func81,ntmps81;go_upto_region 1 with fail
  rw [<- show W = _ from HW];go_wp2_with fail;refine (I.out _).mono ?_;rintro e w2 ⟨rfl,m⟩;have f:=m.symm;subst f;go_wp2_with fail;go_ret;exact ⟨rfl,b⟩
theorem Tryz.infoFz:(prog.info? 29).map (fun i=>(i.zero,i.size,i.bytes)) = some (some (.agg #[.int .i64 0,.slice none 0 0]),2,32):=by kernel_rfl
theorem OA (N d:Nat) (w:World) (hN:N <= 1048576) (hd:d <= 1000) :
 Calls prog 83 #[.int .i64 (N:Int),.int .i64 (d:Int)] w fun e w'=>e = .returned (.string ⟨(An d N).toArray⟩) /\ Bl w w':=by
 go_enter func83,ntmps83;go_wp2_with fail
 go_loopw [0,1,5] (fun nv v Z wr=>∃ (r n:Nat) (s:LU),r <= d /\ n <= 1048576 /\ nv = .int .i64 (n:Int) /\ v = .int .i64 (r:Int) /\ Z = .string ⟨s.toArray⟩ /\ Hid (An r n ++ s = An d N /\ s.length + r = d) /\ Bl w wr) (fun _ v _ _=>(intOf v).toNat)
 case atStart=>exact ⟨d,N,[],QE _,hN,rfl,rfl,rfl,⟨qM _,by simp⟩,Below.refl _ _⟩
 case round =>
  obtain ⟨r,n,s,hr,V,rfl,rfl,rfl,o,j⟩:=hrel
  by_cases h0:0 < r
  ·have M:(0:Int) < (r:Int):=by omega
   have E:(n:Int).tmod 10 = ((n % 10:Nat):Int):=by rw [Qk (Int.natCast_nonneg _)];omega
   have p:(n:Int) % 10 = ((n % 10:Nat):Int):=by omega
   have x:(n:Int).tdiv 10 = ((n / 10:Nat):Int):=by rw [Int.tdiv_eq_ediv_of_nonneg (Int.natCast_nonneg _)];omega
   have l:(n:Int) / 10 = ((n / 10:Nat):Int):=by omega
   have C:n % 10 < 10:=Nat.mod_lt _ (by omega);have HS:Hid (An (r - 1) (n / 10) ++ ([UInt8.ofNat (48 + n % 10)] ++ s) = An d N /\ ([UInt8.ofNat (48 + n % 10)] ++ s).length + (r - 1) = d):=by
    obtain ⟨e1,e2⟩:=o.out;refine ⟨?_,by simp;omega⟩;rw [<- e1,<- QV]
    congr 1
    have:r = r - 1 + 1:=by omega
    rw [this]
    rfl
   have u:n / 10 <= 1048576:=QG (qX _ _) V;obtain ⟨q,O⟩:=uX (n / 10);obtain ⟨m,L⟩:=uX (n % 10);rw [<- O] at x l u HS;rw [<- L] at E p C HS;have R:IntKind.i64.wrap ((r:Int) - 1) = ((r - 1:Nat):Int):=by rw [QH];omega
   obtain ⟨B,t⟩:=uX (r - 1);rw [<- t] at R HS;have D:B <= d:=by omega
   have a0:B < r:=by omega
   have G:(UInt8.ofNat (48 + m)).toNat = 48 + m:=by rw [Qb];omega
   obtain ⟨Y,b⟩:=uX (wr.alloc (Obj.cells #[.int .u8 (48 + (m:Int))] 5));have F:Blk Y wr.heap.size 5 [.int .u8 (48 + (m:Int))]:=by rw [b];exact Blk.new _ _ _
   have J:RowAt Y (some ⟨wr.heap.size,0,none⟩) [UInt8.ofNat (48 + m)]:=by
    refine .inr ⟨_,_,rfl,fun i X=>?_⟩;obtain rfl:i = 0:=by simp at X;omega
    rw [qq,F.c 0];show some (Value.int .u8 (48 + (m:Int))) = some (Value.int .u8 (((UInt8.ofNat (48 + m)).toNat:Nat):Int));rw [G];simp
   have g:=Er [UInt8.ofNat (48 + m)] (some ⟨wr.heap.size,0,none⟩) 1 1 Y rfl J;have W:=uB b;have T:=j.trans (W.mono j.size);obtain ⟨A,z⟩:∃ a:ByteArray,a = ⟨[UInt8.ofNat (48 + m)].toArray⟩:=⟨_,rfl⟩;obtain ⟨SS,k⟩:∃ a:ByteArray,a = ⟨s.toArray⟩:=⟨_,rfl⟩;have f:A ++ SS = ⟨([UInt8.ofNat (48 + m)] ++ s).toArray⟩:=by
    rw [z,k];apply ByteArray.ext;simp
   have y:A.size + SS.size <= 9223372036854775807:=by
    have h:=congrArg ByteArray.size f;have h2:(⟨([UInt8.ofNat (48 + m)] ++ s).toArray⟩:ByteArray).size = s.length + 1:=by simp [ByteArray.size]
    rw [h2,ByteArray.size_append] at h;have H:=HS.out.2;rw [QC] at H;simp at H;omega
   have a1:=fun (wx:World)=>run_string_add_sum (P:=prog) wx A SS y;rw [<- z] at g;rw [<- k];rw [b] at g;have I:=AA f;have U:=AA b;clear O L t o z k f J F G b;go_upto_region 5 with fail
   rw [<- show Y = _ from U];clear g U;go_wp2_with fail;go_roundw
   case rel=>exact ⟨B,q,_,D,u,rfl,rfl,by rw [show A ++ SS = _ from I],HS,T⟩
   case measure=>simp [intOf];omega
  ·have M:¬ (0:Int) < (r:Int):=by omega
   obtain rfl:r = 0:=by omega
   have HE:Hid (s = An d N):=by have h:=o.out.1;exact h
   clear o;go_wp2_with fail;go_ret;exact ⟨by rw [HE.out];rfl,j⟩
theorem Tryz.infoB8:(prog.info? 5).map (fun i=>(i.zero,i.size,i.bytes)) = some (some (.int .u8 0),1,1):=by kernel_rfl
theorem JX {w:World} {b o:Nat} {d:LU} (h:RowAt w (some ⟨b,o,none⟩) d):∀ j u,(d.map byte)[j]? = some u -> w.cell? ((⟨b,o,none⟩:Addr).add j) = some u:=by
 intro j u i;obtain ⟨a,g⟩:=List.getElem?_eq_some_iff.1 i;rw [QD] at a;obtain ⟨l,k,f,c⟩:=h.at a;cases f
 rw [qZ,c j a,<- g];simp [byte,a]
theorem P4 (d:LU):∀ u ∈ d.map byte,u.oneCell' = true:=by
 intro u a;obtain ⟨x,-,rfl⟩:=List.mem_map.1 a
 rfl
theorem MI {w:World} (base i:Nat) (v:Value) (l:LU) (a:AO w base v l) (b:Option Addr) (c:Nat) :
 (Builtin.append_ #[22,22] i #[v,.slice b 0 c]).run prog w = .ok v w:=by
 obtain ⟨q,f,k,m,j⟩:=Qg Tryz.infoB8;rcases a.2 with ⟨rfl,p⟩ | ⟨g,n,o,rfl,_,_,d,_⟩
 ·cases b <;> simp [Builtin.append_,run_underlying underlying22,sizeOf,typeInfo,f,Builtin.lenOf,Builtin.firstCells,loadCells,loadCellsFrom]
 ·cases b <;> simp [Builtin.append_,run_underlying underlying22,sizeOf,typeInfo,f,Builtin.lenOf,Builtin.firstCells,d,storeCells,loadCells,loadCellsFrom]
theorem IR {w:World} (base j:Nat) (v:Value) (l d:LU) (a:AO w base v l) (i:Option Addr) (c:Nat) (r:RowAt w i d) (y:l.length + d.length <= 1073741824) (f:base <= w.heap.size) :
 ∃ g w',(Builtin.append_ #[22,22] j #[v,.slice i d.length c]).run prog w = .ok g w' /\ AO w' base g (l ++ d) /\ w.grownBy w' v.ownBlock:=by
 obtain ⟨t,s,m,n,k⟩:=Qg Tryz.infoB8;rcases r with rfl | ⟨b,o,rfl,u⟩
 ·exact ⟨v,w,MI base j v l a i c,by rw [qM];exact a,⟨rfl,rfl,rfl,QE _,fun _ _ _=>rfl⟩⟩
 ·obtain ⟨g,w',x,p,q,-⟩:=run_append_own (P:=prog) w base 22 j 5 t (.int .u8 0) 1 1 underlying22 s m n k rfl (by decide) v l.length (l.map byte) a ⟨b,o,none⟩ d.length c (d.map byte) (by rw [QD,Nat.mul_one]) (JX (.inr ⟨b,o,rfl,u⟩)) (P4 d) (by unfold maxLen;omega) (by omega) f;refine ⟨g,w',x,?_,q⟩;unfold AO;rw [Qf,QC];exact p
theorem Cp {w:World} {ops:Array Oper} {rest:List Oper} {o:Oper} {a:Act} {Q:Exit -> Act -> World -> Prop} (k:o.guard = none) (s x:Operand)
 (n:o.op = .call { callee:=.builtin .append,args:=#[s,x],argTypes:=#[22,22] }) (base:Nat) (v:Value) (l d:LU) (r:a.eval s = v) (j:AO w base v l) (i:Option Addr) (c:Nat) (y:a.eval x = .slice i d.length c) (u:RowAt w i d) (m:l.length + d.length <= 1073741824) (b:base <= w.heap.size)
 (h:∀ f w',AO w' base f (l ++ d) -> w.grownBy w' v.ownBlock -> wpList prog ops Q rest (a.put o.dst f) w'):wpList prog ops Q (o :: rest) a w:=by
 refine wpList_plain k fun K q=>?_;obtain ⟨f,w',g,t,p⟩:=IR base o.type v l d j i c u m b;unfold Oper.wp execOp;simp only [n,resolve,invoke,builtin,Qe,ql,qB,qR,qD,qN,r,y,g];exact q _ _ (h f w' t p)
theorem Ii {w:World} (base m:Nat) (v:Value) (l d:LU) (f:AO w base v l) (r:l.length + d.length <= 1073741824) (b:base <= w.heap.size) :
 ∃ c w',(Builtin.append_ #[22,9] m #[v,.string ⟨d.toArray⟩]).run prog w = .ok c w' /\ AO w' base c (l ++ d) /\ w.grownBy w' v.ownBlock:=by
 obtain ⟨p,o,i,j,g⟩:=Qg Tryz.infoB8;have a:(⟨d.toArray⟩:ByteArray).size = d.length:=by simp [ByteArray.size]
 obtain ⟨c,w',q,k,n,-⟩:=Lib.run_append_own_string (P:=prog) w base 22 9 m 5 p underlying22 underlying9 o i j g v l.length (l.map byte) f ⟨d.toArray⟩ (by rw [a];unfold maxLen;omega) (by rw [a];omega) b;refine ⟨c,w',q,?_,n⟩;unfold AO;rw [Qf,QC];rw [a] at k;exact k
theorem Gq {w:World} {ops:Array Oper} {rest:List Oper} {o:Oper} {a:Act} {Q:Exit -> Act -> World -> Prop} (i:o.guard = none) (s x:Operand)
 (k:o.op = .call { callee:=.builtin .append,args:=#[s,x],argTypes:=#[22,9] }) (base:Nat) (v:Value) (l d:LU) (p:a.eval s = v) (g:AO w base v l) (r:a.eval x = .string ⟨d.toArray⟩) (j:l.length + d.length <= 1073741824) (b:base <= w.heap.size)
 (h:∀ c w',AO w' base c (l ++ d) -> w.grownBy w' v.ownBlock -> wpList prog ops Q rest (a.put o.dst c) w'):wpList prog ops Q (o :: rest) a w:=by
 refine wpList_plain i fun K n=>?_;obtain ⟨c,w',f,q,m⟩:=Ii base o.type v l d g j b;unfold Oper.wp execOp;simp only [k,resolve,invoke,builtin,Qe,ql,qB,qR,qD,qN,p,r,f];exact n _ _ (h c w' q m)
def EU (w:World) (base:Nat) (v:Value) (l:LU):Prop:=∃ (g a:Nat) (b:Array Value) (c:Nat × Nat),v = .slice (some ⟨g,0,none⟩) l.length a /\ base <= g /\ w.heap[g]? = some (.cells b 5 c) /\ (c.2 = 0 \/ a <= c.1) /\ l.length <= a /\ a <= maxLen /\ b.size = a /\ b.toList.take l.length = l.map byte
theorem EU.row {w:World} {base:Nat} {v:Value} {l:LU} (h:EU w base v l):∃ g a,v = .slice (some ⟨g,0,none⟩) l.length a /\ base <= g /\ g < w.heap.size /\ RowAt w (some ⟨g,0,none⟩) l:=by
 obtain ⟨g,a,f,n,rfl,j,d,-,o,-,m,k⟩:=h;refine ⟨g,a,rfl,j,qS d,.inr ⟨g,0,rfl,fun i b=>?_⟩⟩;have c:(f.toList.take l.length)[i]? = (l.map byte)[i]?:=by rw [k]
 rw [List.getElem?_take,if_pos b,List.getElem?_map,List.getElem?_eq_getElem b] at c;rw [QZ];simp only [World.cell?,d];rw [Array.getElem?_toList] at c;rw [c];simp [byte,b]
theorem EU.kept {w w':World} {base:Nat} {v:Value} {l:LU} (h:EU w base v l) (f:Bl w w'):EU w' base v l:=by
 obtain ⟨g,b,c,i,rfl,d,a,j⟩:=h;exact ⟨g,b,c,i,rfl,d,(f.block g (qS a)).trans a,j⟩
theorem Ja (P:Program) (g o:Nat) (t:TypeId) (b:Nat × Nat):∀ (vs:List Value) (i:Nat) (a:Array Value) (w:World),w.heap[g]? = some (.cells a t b) -> (b.2 = 0 \/ a.size <= b.1) -> o + i + vs.length <= a.size -> (∀ v ∈ vs,v.oneCell' = true) ->
 (storeCells ⟨g,o,none⟩ vs i).run P w = .ok () (w.setRow g (a.toList.take (o + i) ++ vs ++ a.toList.drop (o + i + vs.length)).toArray)
 | [],i,a,w,hg,_,_,_=>by
   simp only [storeCells,qM,qH,qq,qk,Array.toArray_toList];rw [setRow_self w g a t b hg]
   rfl
 | v :: rest,i,a,w,hg,hfz,hl,h1=>by
   have k:o + i < a.size:=by simp at hl;omega
   have d:(⟨g,o,none⟩:Addr).add i = ⟨g,o + i,none⟩:=by rw [qZ]
   have c:w.cell? ⟨g,o + i,none⟩ = some a[o + i]:=by simp [World.cell?,hg,k]
   have f:w.frozen? ⟨g,o + i,none⟩ = false:=by
    obtain ⟨lo,n⟩:=b;simp only [World.frozen?,hg,Bool.and_eq_false_iff,decide_eq_false_iff_not];simp only at hfz;omega
   have j:(store ((⟨g,o,none⟩:Addr).add i) v).run P w = .ok () (w.setRow g (a.setIfInBounds (o + i) v)):=by
    rw [d,run_store P w _ v _ (h1 v (by simp)),c];simp [f,setCell_eq_setRow w g (o + i) a t b v hg]
   have m:=Ja P g o t b rest (i + 1) (a.setIfInBounds (o + i) v) (w.setRow g (a.setIfInBounds (o + i) v)) (setRow_heap w g a _ t _ hg) (by simpa using hfz) (by simp at hl ⊢;omega) (fun x l=>h1 x (by simp [l]));simp only [storeCells,Qe,j,qB,m,setRow_setRow]
   congr 3
   have e:=list_seg_step a.toList (o + i) v rest (by simp at hl ⊢;omega)
   simpa [Array.toList_setIfInBounds,Nat.add_assoc] using e
theorem PV {w:World} (base O:Nat) (v:Value) (l d:LU) (H:EU w base v l) (y:Option Addr) (c:Nat) (D:RowAt w y d) (Z:l.length + d.length <= 1073741824) (B:base <= w.heap.size) :
 ∃ U w',(Builtin.append_ #[22,22] O #[v,.slice y d.length c]).run prog w = .ok U w' /\ EU w' base U (l ++ d) /\ w.grownBy w' v.ownBlock:=by
 obtain ⟨W,E,N,q,M⟩:=Qg Tryz.infoB8;obtain ⟨g,a,f,A,rfl,n,x,i,p,s,t,I⟩:=H;have L:d = [] \/ ∃ b o,y = some ⟨b,o,none⟩ /\ RowAt w (some ⟨b,o,none⟩) d:=by
  rcases D with h | ⟨b,o,rfl,Y⟩
  ·exact .inl h
  ·exact .inr ⟨b,o,rfl,.inr ⟨b,o,rfl,Y⟩⟩
 rcases L with rfl | ⟨b,o,rfl,m⟩
 ·refine ⟨.slice (some ⟨g,0,none⟩) l.length a,w,?_,?_,⟨rfl,rfl,rfl,QE _,fun _ _ _=>rfl⟩⟩
  ·cases y <;> simp [Builtin.append_,run_underlying underlying22,sizeOf,typeInfo,E,Builtin.lenOf,Builtin.firstCells,p,storeCells,loadCells,loadCellsFrom]
  ·rw [qM];exact ⟨g,a,f,A,rfl,n,x,i,p,s,t,I⟩
 ·have r:(l.map byte ++ d.map byte).length = l.length + d.length:=by simp
  by_cases hroom:l.length + d.length <= a
  ·have V:=run_firstCells_some (P:=prog) w 1 d.length ⟨b,o,none⟩ d.length c (d.map byte) (by simp) (JX m);have C:=Ja prog g l.length 5 A (d.map byte) 0 f w x (by rw [t];exact i) (by simp;omega) (P4 d);simp only [qq,QD] at C;refine ⟨.slice (some ⟨g,0,none⟩) (l.length + d.length) a,w.setRow g (f.toList.take l.length ++ d.map byte ++ f.toList.drop (l.length + d.length)).toArray,?_,?_,⟨rfl,rfl,rfl,by simp,fun k _ F=>setRow_other w g k _ (fun e=>F (by simp [Value.ownBlock,e]))⟩⟩
   ·simp [Builtin.append_,run_underlying underlying22,sizeOf,typeInfo,E,q,Builtin.lenOf,hroom,V,Addr.add_lit,C]
   ·refine ⟨g,a,_,A,by rw [QC],n,setRow_heap w g f _ _ _ x,i,by rw [QC];exact hroom,s,?_,?_⟩
    ·simp only [Qo,QC,QI,QN,Ql,QD];omega
    ·rw [I,Qf,QC,<- r];exact JC
  ·have z:∀ j u,(l.map byte)[j]? = some u -> w.cell? ((⟨g,0,none⟩:Addr).add j) = some u:=by
    obtain ⟨g',X,T,-,-,J⟩:=EU.row (w:=w) (base:=base) (v:=.slice (some ⟨g,0,none⟩) l.length a) (l:=l) ⟨g,a,f,A,rfl,n,x,i,p,s,t,I⟩;simp only [Value.slice.injEq,Option.some.injEq,Addr.mk.injEq,and_true,true_and] at T;obtain ⟨rfl,rfl⟩:=T;exact JX J
   have D:=run_append_grow (P:=prog) w 22 O 5 W (.int .u8 0) underlying22 E N ⟨g,0,none⟩ l.length a (l.map byte) (by rw [q];simp) z ⟨b,o,none⟩ d.length c (d.map byte) (by rw [q];simp) (JX m) (by omega) (by omega) (growslice_fits (by omega) (by rw [M];omega));have R:=grownCap_ge w (l.length + d.length) a 5;have G:grownCap w (l.length + d.length) a 5 <= maxLen:=grownCap_le_maxLen w (l.length + d.length) a 5 (by unfold maxLen;omega);refine ⟨_,_,D,⟨w.heap.size,_,_,(0,0),by rw [QC],B,heap_alloc_new w.drew _,.inl rfl,by rw [QC];exact R,G,?_,?_⟩,⟨rfl,rfl,rfl,by simp,fun k F _=>Go.heap_alloc_old w.drew _ F⟩⟩
   ·have hz:(Value.int IntKind.u8 0).cells.size = 1:=rfl;simp only [Array.size_append,Qo,size_zeroCells,hz,QD];omega
   ·simp only [Array.toList_append,QV,Qf,QC];rw [<- QV,<- r];exact JC
theorem Ge {w:World} {o:Oper} {a:Act} {K:Act -> World -> Prop} {Q:Exit -> Act -> World -> Prop} (s x:Operand)
 (m:o.op = .call { callee:=.builtin .append,args:=#[s,x],argTypes:=#[22,22] }) (base:Nat) (v:Value) (l d:LU) (p:a.eval s = v) (j:EU w base v l) (i:Option Addr) (c:Nat) (t:a.eval x = .slice i d.length c) (r:RowAt w i d) (k:l.length + d.length <= 1073741824) (b:base <= w.heap.size)
 (h:∀ f w',EU w' base f (l ++ d) -> w.grownBy w' v.ownBlock -> K (a.put o.dst f) w'):o.wp prog a w K Q:=by
 obtain ⟨f,w',g,q,n⟩:=PV base o.type v l d j i c r k b;unfold Oper.wp execOp;simp only [m,resolve,invoke,builtin,Qe,ql,qB,qR,qD,qN,p,t,g];exact h f w' q n
theorem Np {w:World} {o:Oper} {a:Act} {K:Act -> World -> Prop} {Q:Exit -> Act -> World -> Prop} (s x:Operand)
 (j:o.op = .call { callee:=.builtin .append,args:=#[s,x],argTypes:=#[22,9] }) (base:Nat) (v:Value) (l d:LU) (m:a.eval s = v) (g:AO w base v l) (p:a.eval x = .string ⟨d.toArray⟩) (i:l.length + d.length <= 1073741824) (b:base <= w.heap.size)
 (h:∀ c w',AO w' base c (l ++ d) -> w.grownBy w' v.ownBlock -> K (a.put o.dst c) w'):o.wp prog a w K Q:=by
 obtain ⟨c,w',f,n,k⟩:=Ii base o.type v l d g i b;unfold Oper.wp execOp;simp only [j,resolve,invoke,builtin,Qe,ql,qB,qR,qD,qN,m,p,f];exact h c w' n k
theorem Mm (w:World) (s:ByteArray) (f:s.size <= 1048576):∃ v w',(convert 9 22 (.string s)).run prog w = .ok v w' /\ EU w' w.heap.size v s.data.toList /\ Bl w w':=by
 have b:=grownCap_ge w s.size 0 5;have c:=grownCap_le_maxLen w s.size 0 5 (by unfold maxLen;omega);have d:s.data.toList.length = s.size:=Ql;have a:(Lib.bytesCells w 5 s).size = grownCap w s.size 0 5:=by
  unfold Lib.bytesCells;rw [Array.size_append,Array.size_map,Array.size_replicate];show s.size + _ = _;omega
 refine ⟨_,_,Lib.run_convert_string_bytes w 9 22 5 s underlying9 underlying22 underlying5,⟨w.heap.size,grownCap w s.size 0 5,_,_,by rw [d],QE _,Lib.bytesWorld_at_new w _ s,.inr (by rw [a];exact QE _),by rw [d];exact b,c,a,?_⟩,Pi w _ s⟩;unfold Lib.bytesCells;rw [Array.toList_append,qT (by simp),QS (by simp)];simp [byte]
end Go.Proofs.YtbkokcjolanpeaaGreatDoor
