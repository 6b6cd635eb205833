import PyProof.Rows.All
import Wide.All
import OpenK.AllK
import Wide.FinOn
import Lean
import PyProof.EqAt
import PyProof.EqKinds
import PyProof.TupleCall
import PyProof.CompFree
import PyProof.CollectWalk
import PyProof.Rows.SetFrom
import PyProof.Rows.SortShell
import PySem.Challenge.RW_allhits_k49_what_a_desk_answers
set_option Elab.async false
set_option linter.all false
set_option maxRecDepth 100000
def yaa := @Nat.testBit_and
def yab := @Bool.and_eq_true
def yac := @Nat.eq_of_testBit_eq
def yad := @Nat.le_antisymm
def yae := @Nat.testBit_lt_two_pow
def yaf := @Nat.lt_of_lt_of_le
def yag := @Nat.pow_le_pow_right
def yah := @Nat.lt_or_ge
def yai := @Nat.two_pow_pos
def yaj := @Nat.testBit_xor
def yak := @Nat.testBit_two_pow
def yal := @Nat.pow_succ
def yam := @Nat.testBit_zero
def yan := @Nat.mod_two_eq_zero_or_one
def yao := @Nat.testBit_or
def yap := @Nat.lt_two_pow_self
def yaq := @Nat.lt_of_le_of_ne
def yar := @List.reverse_reverse
def yas := @List.foldl_append
def yat := @List.pairwise_append
def yau := @List.filter_congr
def yav := @List.mem_append_left
def yaw := @List.mem_append
def yax := @List.filter_append
def yay := @Bool.eq_iff_iff
def yaz := @Bool.not_eq_true'
def yba := @Nat.le_refl
def ybb := @List.mem_filter
def ybc := @List.any_eq_false
def ybd := @List.filter_sublist
def ybe := @List.mem_cons_self
def ybf := @List.pairwise_cons
def ybg := @List.mem_cons
def ybh := @List.mem_cons_of_mem
def ybi := @List.all_eq_true
def ybj := @List.pairwise_lt_range
def ybk := @List.mem_range
def ybl := @Nat.lt_of_le_of_lt
def ybm := @List.any_eq_true
def ybn := @List.foldl_cons
def ybo := @Nat.lt_trans
def ybp := @Nat.testBit_two_pow_self
def ybq := @Nat.or_lt_two_pow
def ybr := @Nat.pow_lt_pow_right
def ybs := @List.mem_reverse
def ybt := @List.mem_map
def ybu := @List.pairwise_reverse
def ybv := @List.pairwise_map
def ybw := @List.length_erase_of_mem
def ybx := @List.find?_eq_none
def yby := @List.mem_of_find?_eq_some
def ybz := @Nat.zero_le
def yca := @List.nodup_cons
def ycb := @List.length_cons
def ycc := @List.nodup_range
def ycd := @List.length_map
def yce := @List.filter_cons
def ycf := @List.map_cons
def ycg := @List.sum_cons
def ych := @List.map_congr_left
def yci := @List.getD_eq_getElem?_getD
def ycj := @List.getElem?_eq_getElem
def yck := @List.mem_of_getElem?
def ycl := @List.getElem?_eq_some_iff
def ycm := @List.pairwise_iff_getElem
def ycn := @List.getElem_of_mem
def yco := @List.getElem?_map
def ycp := @List.getElem?_range
def ycq := @List.idxOf_lt_length_iff
def ycr := @List.getElem_idxOf
def ycs := @Bool.and_eq_true_iff
def yct := @List.range_add
def ycu := @List.map_append
def ycv := @List.map_map
def ycw := @Nat.le_succ
def ycx := @Nat.lt_succ_self
def ycy := @Bool.or_eq_true
def ycz := @List.mem_flatMap
def yda := @Array.getElem?_toList
def ydb := @Nat.le_of_lt
def ydc := @Nat.le_trans
def ydd := @Array.getElem?_eq_none
def yde := @Nat.eq_zero_or_pos
def ydf := @Array.toList_extract
def ydg := @List.length_drop
def ydh := @Array.length_toList
def ydi := @List.take_length
def ydj := @Array.toList_push
def ydk := @List.append_assoc
def ydl := @List.take_append_drop
def ydm := @List.getElem?_of_mem
def ydn := @List.filterMap_cons
def ydo := @List.mem_filterMap
def ydp := @List.getElem_mem
def ydq := @List.length_append
def ydr := @PySem.Heap.get?_update_self
def yds := @List.range_succ
def ydt := @PySem.Heap.get?_push_size
def ydu := @PySem.Heap.get?_push_of_some
def ydv := @PySem.Heap.lt_size
def ydw := @PySem.Heap.size_push
def ydx := @Nat.ne_of_lt
def ydy := @Nat.lt_succ_of_lt
def ydz := @List.not_mem_nil
def yea := @Nat.ne_of_gt
def yeb := @Nat.lt_of_succ_lt_succ
def yec := @List.length_eq_zero_iff
def yed := @List.append_nil
def yee := @Nat.mod_lt
def yef := @List.length_eraseIdx_of_lt
def yeg := @PySem.Heap.get?_update_other
def yeh := @Nat.le_of_eq
def yei := @List.mem_singleton
def yej := @List.ext_getElem
def yek := @List.getElem?_eq_none
def yel := @Bool.or_false
def yem := @Bool.false_eq_true
def yen := @Nat.lt_irrefl
def yeo := @Array.append_assoc
def yep := @List.getElem_inj
def yeq := @List.getElem?_set_self
def yer := @List.getElem?_set_ne
def yet := @Bool.false_ne_true
def yeu := @Bool.false_and
def yev := @List.mem_append_right
def yew := @Int.natCast_nonneg
def yex := @Int.fdiv_eq_ediv_of_nonneg
def yey := @Array.mem_toList_iff
def yez := @List.of_mem_zip
def yfa := @Option.isSome_iff_exists
def yfb := @List.length_take
def yfc := @List.getElem?_append_right
def yfd := @List.getElem?_replicate
def yfe := @List.getElem?_append_left
def yff := @List.length_replicate
def yfg := @Int.toNat_natCast
def yfh := @List.size_toArray
def yfi := @List.map_nil
def yfj := @List.length_set
def yfk := @List.any_cons
def yfl := @List.replicate_succ
def yfm := @List.flatten_cons
def yfn := @List.length_singleton
def yfo := @Nat.succ_mul
def yfp := @Nat.mul_comm
def yfq := @List.find?_cons
def yfr := @Option.map_some
def yfs := @List.cons_append
def yft := @PySem.F.slot_dict_getitem
def yfu := @List.lookup_cons
def yfv := @List.forIn_cons
def yfw := @Bool.true_and
def yfx := @List.getElem_toArray
def yfy := @Array.toArray_toList
def yfz := @List.take_of_length_le
def yga := @List.map_id
def ygb := @List.perm_ext_iff_of_nodup
def ygc := @List.length_filter_le
def ygd := @List.drop_zero
def yge := @List.drop_eq_nil_of_le
def ygf := @List.filter_eq_self
def ygg := @PySem.Heap.get?_push_ne
def ygh := @Nat.sub_self
def ygi := @List.mem_iff_getElem
def ygj := @List.mem_flatten
def ygk := @List.pairwise_flatten
def ygl := @List.length_reverse
def ygm := @List.length_range
def ygn := @Nat.mul_le_mul_right
def ygo := @List.map_eq_nil_iff
def ygp := @Nat.not_lt_zero
def ygq := @PySem.F.slot_list_index
def ygr := @List.take_add_one
def ygs := @Nat.one_mul
def ygt := @Nat.mul_le_mul
def ygu := @List.filter_eq_nil_iff
def ygv := @List.map_replicate
def ygw := @List.map_reverse
def ygx := @List.getElem?_cons_succ
def ygy := @List.getElem?_cons_zero
def ygz := @Int.emod_nonneg
def yha := @Int.emod_lt_of_pos
def yhb := @Int.toNat_of_nonneg
def yhc := @List.mem_of_mem_take
def yhd := @PySem.F.plainAttrs_list
def yhe := @PySem.F.slot_list_append
def yhf := @PySem.F.type_list_append
def yhg := @PySem.F.plainAttrs_str
def yhh := @PySem.F.slot_str_join
def yhi := @PySem.F.type_str_join
def yhj := @List.map_set
def yhk := @List.drop_eq_getElem_cons
def yhl := @PySem.F.slot_str_split
def yhm := @PySem.F.type_str_split
def yhn := @List.length_pos_iff
def yho := @Nat.mod_eq_of_lt
def yhp := @List.find?_append
def yhq := @Int.natAbs_natCast
def yhr := @Nat.log2_le_self
def yhs := @List.drop_succ_cons
def yht := @Int.natCast_emod
namespace Fam
def sub (b a:Nat):Prop:=a&&&b=b
instance (b a:Nat):Decidable (sub b a):=inferInstanceAs (Decidable (a&&&b=b))
def qa7 {b a:Nat}:sub b a↔∀k,b.testBit k=true→a.testBit k=true:=by
 unfold sub
 constructor
 · intro h k hk
   rw [←h,yaa,yab] at hk
   exact hk.1
 · intro h
   refine yac fun k=>?_
   rw [yaa]
   cases hb:b.testBit k
   · simp
   · simp [h k hb]
def sub_refl (a:Nat):sub a a:=Nat.and_self a
def qbS {a b c:Nat} (h1:sub a b) (h2:sub b c):sub a c:=qa7.mpr fun k hk=>qa7.mp h2 k (qa7.mp h1 k hk)
def sub_le {a b:Nat} (h:sub b a):b≤a:=by
 have:a&&&b≤a:=Nat.and_le_left
 rw [h] at this
 exact this
def qgz {a b:Nat} (h1:sub a b) (h2:sub b a):a=b:=yad (sub_le h1) (sub_le h2)
def mt (a b:Nat):Prop:=a&&&b≠0
instance (b a:Nat):Decidable (mt b a):=inferInstanceAs (Decidable (b&&&a≠0))
def mt_iff {a b:Nat}:mt a b↔∃k,a.testBit k=true∧b.testBit k=true:=by
 unfold mt
 constructor
 · intro h
   obtain ⟨k,hk⟩:=Nat.exists_testBit_of_ne_zero h
   rw [yaa,yab] at hk
   exact ⟨k,hk⟩
 · rintro ⟨k,h1,h2⟩ e
   have:=congrArg (fun z=>Nat.testBit z k) e
   simp [yaa,h1,h2] at this
def qiQ {a b:Nat}:mt a b↔mt b a:=by unfold mt;rw [Nat.and_comm]
def qp2 {a a' b:Nat} (h:sub a a') (q:mt a b):mt a' b:=by
 obtain ⟨k,h1,h2⟩:=mt_iff.mp q
 exact mt_iff.mpr ⟨k,qa7.mp h k h1,h2⟩
def qhl {n a k:Nat} (h:a<2^n) (hk:n≤k):a.testBit k=false:=yae (yaf h (yag (by decide) hk))
def bit_low {n a k:Nat} (h:a<2^n) (hk:a.testBit k=true):k<n:=by
 rcases yah k n with z | z
 · exact z
 · rw [qhl h z] at hk;cases hk
def rst (m a:Nat):Nat:=2^m-(a+1)
def qg9 {m a:Nat} (h:a<2^m) (k:Nat):(rst m a).testBit k=(decide (k<m)&&!a.testBit k):=Nat.testBit_two_pow_sub_succ h k
def rst_lt (m a:Nat):rst m a<2^m:=by
 have:=yai m
 unfold rst
 omega
def rst_rst {m a:Nat} (h:a<2^m):rst m (rst m a)=a:=by unfold rst;omega
def qg5 {m a b:Nat} (ha:a<2^m) (hb:b<2^m):sub a (rst m b)↔¬mt a b:=by
 rw [qa7,mt_iff]
 constructor
 · rintro h ⟨k,h1,h2⟩
   have:=h k h1
   rw [qg9 hb,h2] at this
   simp at this
 · intro h k hk
   rw [qg9 hb]
   have hm:=bit_low ha hk
   cases hb':b.testBit k
   · simp [hm]
   · exact absurd ⟨k,hk,hb'⟩ h
def qj9 (a k:Nat):Nat:=a-2^k
def qiH {a k:Nat} (h:a.testBit k=true):a=(a ^^^ 2^k)+2^k:=by
 have e:(a ^^^ 2^k)&&&2^k=0:=by
   refine yac fun j=>?_
   rw [yaa,yaj,yak,Nat.zero_testBit]
   by_cases c:k=j
   · subst c;simp [h]
   · simp [c]
 have key:∀n x y:Nat,x<2^n→x&&&y=0→x+y=x|||y:=by
   intro n
   induction n with
   | zero =>
     intro x y hx _
     have:x=0:=by omega
     subst this
     simp
   | succ n ih =>
     intro x y hx h
     have q:=ih (x/2) (y/2) (by rw [yal] at hx;omega) (by rw [←Nat.and_div_two,h])
     have e1:(x|||y)/2=x/2|||y/2:=Nat.or_div_two
     have m2:x%2=0∨y%2=0:=by
       have:=congrArg (fun z=>Nat.testBit z 0) h
       simp only [yaa,yam,Nat.zero_testBit] at this
       rcases yan x with z1 | z1<;>rcases yan y with z2 | z2<;>simp [z1,z2] at this ⊢
     have m1:(x|||y)%2=x%2+y%2:=by
       have:=yao x y 0
       simp only [yam] at this
       rcases yan (x|||y) with z | z<;>rcases yan x with z1 | z1<;>rcases yan y with z2 | z2<;>simp [z,z1,z2] at this m2 ⊢
     rw [←e1] at q
     omega
 have:=key (a ^^^ 2^k) (a ^^^ 2^k) (2^k) yap e
 rw [this]
 refine yac fun j=>?_
 rw [yao,yaj,yak]
 by_cases c:k=j
 · subst c;simp [h]
 · simp [c]
def qd5 {a k:Nat} (h:a.testBit k=true) (j:Nat):(qj9 a k).testBit j=(a.testBit j&&decide (j≠k)):=by
 have e:qj9 a k=a ^^^ 2^k:=by
   have:=qiH h
   unfold qj9
   omega
 rw [e,yaj,yak]
 by_cases c:k=j
 · subst c;simp [h]
 · simp [c,Ne.symm c]
def qq0 {a k:Nat} (h:a.testBit k=true):qj9 a k<a:=by
 have:=qiH h
 have:=yai k
 unfold qj9
 omega
def qn0 {a k:Nat} (h:a.testBit k=true):sub (qj9 a k) a:=qa7.mpr fun j hj=>by
 rw [qd5 h,yab] at hj
 exact hj.1
def pick (P:Nat→Bool) (L:List Nat):List Nat:=L.foldl (fun found a=>if (!(found.any fun b=>decide (sub b a))&&P a)=true then found++[a] else found) []
def qfO (P:Nat→Bool) (L:List Nat) (a:Nat):Prop:=P a=true∧∀b∈L,P b=true→sub b a→b=a
instance (P:Nat→Bool) (L:List Nat) (a:Nat):Decidable (qfO P L a):=inferInstanceAs (Decidable (_∧_))
def qd3 (P:Nat→Bool) (L:List Nat):∀(n b:Nat),b≤n→b∈L→P b=true→∃c∈L,qfO P L c∧sub c b
 | n,b,hn,hb,hP=>by
   by_cases c:∃d∈L,P d=true∧sub d b∧d≠b
   · obtain ⟨d,hd,hPd,hs,hne⟩:=c
     have hlt:d<b:=yaq (sub_le hs) hne
     match n with
     | 0=>omega
     | n+1 =>
       obtain ⟨e,he,hm,hse⟩:=qd3 P L n d (by omega) hd hPd
       exact ⟨e,he,hm,qbS hse hs⟩
   · refine ⟨b,hb,⟨hP,fun d hd hPd hs=>?_⟩,sub_refl b⟩
     by_cases e:d=b
     · exact e
     · exact absurd ⟨d,hd,hPd,hs,e⟩ c
def qjH {p:List Nat→Prop} (h0:p []) (h1:∀L a,p L→p (L++[a])) (L:List Nat):p L:=by
 have:∀M:List Nat,p M.reverse:=by
   intro M
   induction M with
   | nil=>exact h0
   | cons a M ih=>rw [List.reverse_cons];exact h1 _ _ ih
 have:=this L.reverse
 rwa [yar] at this
def pick_snoc (P:Nat→Bool) (L:List Nat) (a:Nat):pick P (L++[a])=if (!((pick P L).any fun b=>decide (sub b a))&&P a)=true then pick P L++[a] else pick P L:=by
 unfold pick
 rw [yas]
 rfl
def qmn (P:Nat→Bool) (L:List Nat) (hL:L.Pairwise (· < ·)):pick P L=L.filter fun a=>decide (qfO P L a):=by
 revert hL
 refine qjH (p:=fun L=>L.Pairwise (· < ·)→pick P L=L.filter fun a=>decide (qfO P L a)) (fun _=>rfl) (fun L a ih hL=>?_) L
 obtain ⟨hL1,_,hlt⟩:=yat.mp hL
 have hlt:∀x∈L,x<a:=fun x hx=>hlt x hx a (by simp)
 have ih:=ih hL1
 have e1:L.filter (fun x=>decide (qfO P (L++[a]) x))=L.filter fun x=>decide (qfO P L x):=by
   refine yau fun x hx=>?_
   rw [decide_eq_decide]
   constructor
   · rintro ⟨h1,h2⟩
     exact ⟨h1,fun b hb=>h2 b (yav _ hb)⟩
   · rintro ⟨h1,h2⟩
     refine ⟨h1,fun b hb hP hs=>?_⟩
     rcases yaw.mp hb with z | z
     · exact h2 b z hP hs
     · have:b=a:=by simpa using z
       subst this
       have:=sub_le hs
       have:=hlt x hx
       omega
 rw [pick_snoc,yax,e1,←ih]
 have key:(!((pick P L).any fun b=>decide (sub b a))&&P a)=decide (qfO P (L++[a]) a):=by
   rw [yay,yab,yaz,decide_eq_true_eq]
   constructor
   · rintro ⟨h1,h2⟩
     refine ⟨h2,fun b hb hP hs=>?_⟩
     rcases yaw.mp hb with z | z
     · exfalso
       obtain ⟨c,hc,hm,hsc⟩:=qd3 P L b b (yba _) z hP
       have hin:c∈pick P L:=by rw [ih];exact ybb.mpr ⟨hc,decide_eq_true hm⟩
       have:=ybc.mp h1 c hin
       exact this (decide_eq_true (qbS hsc hs))
     · simpa using z
   · rintro ⟨h1,h2⟩
     refine ⟨?_,h1⟩
     rw [ybc]
     intro c hc hd
     rw [ih] at hc
     obtain ⟨c1,c2⟩:=ybb.mp hc
     have:=h2 c (yav _ c1) (of_decide_eq_true c2).1 (of_decide_eq_true hd)
     have:=hlt c c1
     omega
 rw [key]
 by_cases c:qfO P (L++[a]) a
 · rw [if_pos (decide_eq_true c)]
   simp [c]
 · rw [if_neg (by simpa using c)]
   simp [c]
def qeT {P:Nat→Bool} {L:List Nat} (hL:L.Pairwise (· < ·)) {a:Nat}:a∈pick P L↔a∈L∧qfO P L a:=by
 rw [qmn P L hL,ybb,decide_eq_true_eq]
def qfN {P:Nat→Bool} {L:List Nat} (hL:L.Pairwise (· < ·)):(pick P L).Pairwise (· < ·):=by
 rw [qmn P L hL]
 exact hL.sublist ybd
def pick_len (P:Nat→Bool) (L:List Nat):(pick P L).length≤L.length:=by
 refine qjH (p:=fun L=>(pick P L).length≤L.length) (yba _) (fun L a ih=>?_) L
 rw [pick_snoc]
 split
 · simp;exact ih
 · simp;omega
def rise_ext:∀{a b:List Nat},a.Pairwise (· < ·)→b.Pairwise (· < ·)→(∀x,x∈a↔x∈b)→a=b
 | [],[],_,_,_=>rfl
 | [],y::b,_,_,h=>absurd ((h y).mpr ybe) (by simp)
 | x::a,[],_,_,h=>absurd ((h x).mp ybe) (by simp)
 | x::a,y::b,ha,hb,h=>by
   obtain ⟨a1,a2⟩:=ybf.mp ha
   obtain ⟨b1,b2⟩:=ybf.mp hb
   have e:x=y:=by
     rcases ybg.mp ((h x).mp ybe) with z | z
     · exact z
     · rcases ybg.mp ((h y).mpr ybe) with q | q
       · exact q.symm
       · have:=b1 x z
         have:=a1 y q
         omega
   subst e
   congr 1
   refine rise_ext a2 b2 fun z=>?_
   constructor
   · intro hz
     rcases ybg.mp ((h z).mp (ybh _ hz)) with q | q
     · have:=a1 z hz;omega
     · exact q
   · intro hz
     rcases ybg.mp ((h z).mpr (ybh _ hz)) with q | q
     · have:=b1 z hz;omega
     · exact q
def hitP (fs:List Nat) (a:Nat):Bool:=fs.all fun b=>decide (mt a b)
def hitP_iff {fs:List Nat} {a:Nat}:hitP fs a=true↔∀b∈fs,mt a b:=by
 unfold hitP
 rw [ybi]
 simp only [decide_eq_true_eq]
def qkY {fs:List Nat} {a b:Nat} (h:sub b a) (q:hitP fs b=true):hitP fs a=true:=hitP_iff.mpr fun c hc=>qp2 h (hitP_iff.mp q c hc)
def hits (m:Nat) (fs:List Nat):List Nat:=pick (hitP fs) (List.range (2^m))
def qbW {m:Nat} {fs:List Nat} {a:Nat}:a∈hits m fs↔a<2^m∧hitP fs a=true∧∀b,b<2^m→hitP fs b=true→sub b a→b=a:=by
 unfold hits
 rw [qeT ybj,ybk]
 unfold qfO
 simp only [ybk]
def hits_rise (m:Nat) (fs:List Nat):(hits m fs).Pairwise (· < ·):=qfN ybj
def qgf {m:Nat} {fs:List Nat} {a:Nat} (ha:a<2^m) (h:hitP fs a=true):∃c∈hits m fs,sub c a:=by
 obtain ⟨c,hc,hm,hs⟩:=qd3 (hitP fs) (List.range (2^m)) a a (yba _) (ybk.mpr ha) h
 exact ⟨c,(qeT ybj).mpr ⟨hc,hm⟩,hs⟩
def sub_lt {m a b:Nat} (h:sub b a) (ha:a<2^m):b<2^m:=ybl (sub_le h) ha
def mins (L:List Nat):List Nat:=pick (fun _=>true) L
def qeV {L:List Nat} (hL:L.Pairwise (· < ·)) {a:Nat}:a∈mins L↔a∈L∧∀b∈L,sub b a→b=a:=by
 unfold mins
 rw [qeT hL]
 unfold qfO
 simp
def qj8 {L:List Nat} (hL:L.Pairwise (· < ·)) {b:Nat} (hb:b∈L):∃c∈mins L,sub c b:=by
 obtain ⟨c,hc,hm,hs⟩:=qd3 (fun _=>true) L b b (yba _) hb rfl
 exact ⟨c,(qeT hL).mpr ⟨hc,hm⟩,hs⟩
def qlG {m:Nat} {fs:List Nat} (hr:fs.Pairwise (· < ·)) (hb:∀b∈fs,b<2^m):hits m (hits m fs)=mins fs:=by
 refine rise_ext (hits_rise _ _) (qfN hr) fun a=>?_
 rw [qeV hr]
 -- each set of the family meets all hits
 have meet:∀f∈fs,hitP (hits m fs) f=true:=fun f hf=>hitP_iff.mpr fun h hh=>qiQ.mp (hitP_iff.mp (qbW.mp hh).2.1 f hf)
 -- what meets all hits holds a set of the family
 have hold:∀t,t<2^m→hitP (hits m fs) t=true→∃f∈fs,sub f t:=fun t ht hp=>by
   apply Classical.byContradiction
   intro hn
   have:hitP fs (rst m t)=true:=hitP_iff.mpr fun f hf=>by
     apply Classical.byContradiction
     intro hm
     have hs:sub f (rst m (rst m t)):=(qg5 (hb f hf) (rst_lt m t)).mpr fun z=>hm (qiQ.mp z)
     rw [rst_rst ht] at hs
     exact hn ⟨f,hf,hs⟩
   obtain ⟨c,hc,hs⟩:=qgf (rst_lt m t) this
   exact (qg5 (sub_lt hs (rst_lt m t)) ht).mp hs (qiQ.mp (hitP_iff.mp hp c hc))
 constructor
 · intro ha
   obtain ⟨h1,h2,h3⟩:=qbW.mp ha
   obtain ⟨f,hf,hs⟩:=hold a h1 h2
   have e:=h3 f (hb f hf) (meet f hf) hs
   subst e
   refine ⟨hf,fun b hbm hsb=>h3 b (hb b hbm) (meet b hbm) hsb⟩
 · rintro ⟨ha,hmin⟩
   refine qbW.mpr ⟨hb a ha,meet a ha,fun b hbl hp hs=>?_⟩
   obtain ⟨f,hf,hsf⟩:=hold b hbl hp
   have e:=hmin f hf (qbS hsf hs)
   subst e
   exact qgz hs hsf
end Fam
namespace Fam
def qjf (L:List Nat) (a:Nat):Prop:=∀b∈L,sub a b→b=a
instance (L:List Nat) (a:Nat):Decidable (qjf L a):=inferInstanceAs (Decidable (∀b∈L,_))
def qim (L:List Nat) (M:Nat) (hM:∀x∈L,x<M):∀(n b:Nat),M≤b+n→b∈L→∃c∈L,qjf L c∧sub b c
 | n,b,hn,hb=>by
   by_cases c:∃d∈L,sub b d∧d≠b
   · obtain ⟨d,hd,hs,hne⟩:=c
     have hlt:b<d:=yaq (sub_le hs) (Ne.symm hne)
     match n with
     | 0=>have:=hM b hb;omega
     | n+1 =>
       obtain ⟨e,he,hm,hse⟩:=qim L M hM n d (by omega) hd
       exact ⟨e,he,hm,qbS hs hse⟩
   · refine ⟨b,hb,fun d hd hs=>?_,sub_refl b⟩
     by_cases e:d=b
     · exact e
     · exact absurd ⟨d,hd,hs,e⟩ c
def sayP (fs:List Nat) (a:Nat):Bool:=fs.any fun b=>decide (sub b a)
def sayP_iff {fs:List Nat} {a:Nat}:sayP fs a=true↔∃b∈fs,sub b a:=by
 unfold sayP
 rw [ybm]
 simp only [decide_eq_true_eq]
def ql9 {fs:List Nat} {a b:Nat} (h:sub b a) (q:sayP fs b=true):sayP fs a=true:=by
 obtain ⟨c,hc,hs⟩:=sayP_iff.mp q
 exact sayP_iff.mpr ⟨c,hc,qbS hs h⟩
def say_mins {fs:List Nat} (hr:fs.Pairwise (· < ·)) (a:Nat):sayP (mins fs) a=sayP fs a:=by
 rw [yay,sayP_iff,sayP_iff]
 constructor
 · rintro ⟨b,hb,hs⟩
   exact ⟨b,((qeV hr).mp hb).1,hs⟩
 · rintro ⟨b,hb,hs⟩
   obtain ⟨c,hc,hs'⟩:=qj8 hr hb
   exact ⟨c,hc,qbS hs' hs⟩
def nms (n a:Nat):List Nat:=(List.range n).filter fun k=>a.testBit k
def mem_nms {n a k:Nat}:k∈nms n a↔k<n∧a.testBit k=true:=by
 unfold nms
 rw [ybb,ybk]
def nms_rise (n a:Nat):(nms n a).Pairwise (· < ·):=ybj.sublist ybd
def ofN (L:List Nat):Nat:=L.foldl (fun z k=>z|||2^k) 0
def qiI (L:List Nat) (j:Nat):(ofN L).testBit j=decide (j∈L):=by
 have key:∀(L:List Nat) (z:Nat),(L.foldl (fun z k=>z|||2^k) z).testBit j=(z.testBit j||decide (j∈L)):=fun L=>by
   induction L with
   | nil=>intro z;simp
   | cons k L ih =>
     intro z
     rw [ybn,ih,yao,yak,Bool.or_assoc]
     congr 1
     by_cases c:k=j
     · subst c;simp
     · simp [c,Ne.symm c]
 unfold ofN
 rw [key]
 simp
def qsU {L:List Nat} {n:Nat} (h:∀k∈L,k<n):ofN L<2^n:=by
 refine Nat.lt_pow_two_of_testBit _ fun k hk=>?_
 rw [qiI,decide_eq_false_iff_not]
 intro z
 have:=h k z
 omega
def ofN_nms {n a:Nat} (h:a<2^n):ofN (nms n a)=a:=by
 refine yac fun j=>?_
 rw [qiI]
 cases hb:a.testBit j with
 | true=>exact decide_eq_true (mem_nms.mpr ⟨bit_low h hb,hb⟩)
 | false=>exact decide_eq_false fun z=>by rw [(mem_nms.mp z).2] at hb;cases hb
def pc (n a:Nat):Nat:=(nms n a).length
end Fam
namespace Fam
def Up (m:Nat) (f:Nat→Bool):Prop:=∀a b,a<2^m→sub b a→f b=true→f a=true
def up_say (m:Nat) (fs:List Nat):Up m (sayP fs):=fun a b _ h q=>ql9 h q
def yes (m:Nat) (f:Nat→Bool):List Nat:=(List.range (2^m)).filter f
def qeY (m:Nat) (f:Nat→Bool):(yes m f).Pairwise (· < ·):=ybj.sublist ybd
def qcO {m:Nat} {f:Nat→Bool} {a:Nat}:a∈yes m f↔a<2^m∧f a=true:=by
 unfold yes
 rw [ybb,ybk]
def qrd {m:Nat} {f:Nat→Bool} (u:Up m f) {a:Nat} (ha:a<2^m):sayP (yes m f) a=f a:=by
 rw [yay,sayP_iff]
 constructor
 · rintro ⟨b,hb,s⟩
   exact u a b ha s (qcO.mp hb).2
 · intro h
   exact ⟨a,qcO.mpr ⟨ha,h⟩,sub_refl a⟩
def qiK {m:Nat} {f:Nat→Bool} (u:Up m f) {a:Nat} (ha:a<2^m):sayP (mins (yes m f)) a=f a:=by
 rw [say_mins (qeY m f),qrd u ha]
def qqn {m:Nat} {f:Nat→Bool} {a:Nat} (h:a∈mins (yes m f)):a<2^m∧f a=true∧∀k,a.testBit k=true→f (qj9 a k)=false:=by
 obtain ⟨h1,h2⟩:=(qeV (qeY m f)).mp h
 obtain ⟨h3,h4⟩:=qcO.mp h1
 refine ⟨h3,h4,fun k hk=>?_⟩
 cases e:f (qj9 a k) with
 | false=>rfl
 | true =>
   have l:=qq0 hk
   have:=h2 _ (qcO.mpr ⟨ybo l h3,e⟩) (qn0 hk)
   omega
def qjW (a k:Nat):Nat:=a+2^k
def qlj {a k:Nat} (h:a.testBit k=false):qjW a k=a|||2^k:=by
 have hb:(a|||2^k).testBit k=true:=by simp [yao,ybp]
 have e:=qiH hb
 have e2:(a|||2^k) ^^^ 2^k=a:=by
   apply yac
   intro j
   rw [yaj,yao]
   rcases Nat.decEq k j with z | z
   · rw [Nat.testBit_two_pow_of_ne z]
     simp
   · subst z
     rw [ybp,h]
     rfl
 rw [e2] at e
 unfold qjW
 omega
def qpF {m a k:Nat} (h:a.testBit k=false) (ha:a<2^m) (hk:k<m):qjW a k<2^m:=by
 rw [qlj h]
 exact ybq ha (ybr (by decide) hk)
def qs3 (a b:Nat):sub a (a|||b):=qa7.mpr fun k hk=>by simp [yao,hk]
def qnJ {a k:Nat} (h:a.testBit k=false):sub a (qjW a k):=by
 rw [qlj h]
 exact qs3 _ _
def qro (L:List Nat):List Nat:=L.filter fun a=>decide (qjf L a)
def qeX {L:List Nat} {a:Nat}:a∈qro L↔a∈L∧qjf L a:=by
 unfold qro
 rw [ybb,decide_eq_true_eq]
def qpx {m:Nat} {f:Nat→Bool} {a:Nat} (h:a∈qro (yes m fun s=>!f s)):a<2^m∧f a=false∧∀k,k<m→a.testBit k=false→f (qjW a k)=true:=by
 obtain ⟨h1,h2⟩:=qeX.mp h
 obtain ⟨h3,h4⟩:=qcO.mp h1
 refine ⟨h3,by simpa using h4,fun k hm hk=>?_⟩
 cases e:f (qjW a k) with
 | true=>rfl
 | false =>
   have:=h2 _ (qcO.mpr ⟨qpF hk h3 hm,by simp [e]⟩) (qnJ hk)
   unfold qjW at this
   have:=yai k
   omega
def heldP (fs:List Nat) (a:Nat):Bool:=fs.any fun b=>decide (sub a b)
def heldP_iff {fs:List Nat} {a:Nat}:heldP fs a=true↔∃b∈fs,sub a b:=by
 unfold heldP
 rw [ybm]
 simp only [decide_eq_true_eq]
def qq3 {m:Nat} {f:Nat→Bool} (u:Up m f) {a:Nat} (ha:a<2^m):heldP (qro (yes m fun s=>!f s)) a = !f a:=by
 rw [yay,heldP_iff]
 constructor
 · rintro ⟨b,hb,s⟩
   obtain ⟨h1,h2,_⟩:=qpx hb
   cases e:f a with
   | false=>rfl
   | true=>rw [u b a h1 s e] at h2;cases h2
 · intro h
   obtain ⟨c,hc,hm,s⟩:=qim (yes m fun s=>!f s) (2^m) (fun x hx=>(qcO.mp hx).1) (2^m) a (by omega) (qcO.mpr ⟨ha,h⟩)
   exact ⟨c,qeX.mpr ⟨hc,hm⟩,s⟩
def qkX {L:List Nat} (h:L.Pairwise (· < ·)):(qro L).Pairwise (· < ·):=h.sublist ybd
def qn3 {m:Nat} {fs:List Nat} {a:Nat} (ha:a<2^m):sayP (hits m fs) a=hitP fs a:=by
 rw [yay,sayP_iff]
 constructor
 · rintro ⟨b,hb,s⟩
   exact qkY s (qbW.mp hb).2.1
 · intro h
   exact qgf ha h
end Fam
namespace Fam
def rsts (m:Nat) (fs:List Nat):List Nat:=(fs.map (rst m)).reverse
def qdZ {m:Nat} {fs:List Nat} {a:Nat}:a∈rsts m fs↔∃b∈fs,rst m b=a:=by
 unfold rsts
 rw [ybs,ybt]
def qmj {m:Nat} {fs:List Nat} (hr:fs.Pairwise (· < ·)) (hb:∀b∈fs,b<2^m):(rsts m fs).Pairwise (· < ·):=by
 unfold rsts
 rw [ybu,ybv]
 refine List.Pairwise.imp_of_mem (fun {a b} ha hb2 h=>?_) hr
 have:=hb a ha
 have:=hb b hb2
 unfold rst
 omega
def rsts_lt {m:Nat} {fs:List Nat}:∀b∈rsts m fs,b<2^m:=fun b hb=>by
 obtain ⟨a,_,rfl⟩:=qdZ.mp hb
 exact rst_lt m a
def qkV {L:List Nat} (h:L.Pairwise (· < ·)):(mins L).Pairwise (· < ·):=qfN h
def hits_lt {m:Nat} {fs:List Nat}:∀b∈hits m fs,b<2^m:=fun b hb=>(qbW.mp hb).1
def qmz {m:Nat} {fs:List Nat}:∀a∈hits m fs,∀b∈hits m fs,sub b a→b=a:=fun a ha b hb s=>(qbW.mp ha).2.2 b (qbW.mp hb).1 (qbW.mp hb).2.1 s
def qn4 {m:Nat} {fs:List Nat} (hr:fs.Pairwise (· < ·)) (hb:∀b∈fs,b<2^m) {a:Nat} (ha:a<2^m):hitP (hits m fs) a=sayP fs a:=by
 rw [←qn3 ha,qlG hr hb,say_mins hr]
def qi8 {m a b:Nat} (ha:a<2^m) (hb:b<2^m) (h:sub (rst m a) (rst m b)):sub b a:=by
 refine qa7.mpr fun k hk=>?_
 have km:=bit_low hb hk
 cases e:a.testBit k with
 | true=>rfl
 | false =>
   have:=qa7.mp h k (by rw [qg9 ha,e];simp [km])
   rw [qg9 hb,hk] at this
   simp at this
def held_rests {m:Nat} {fs:List Nat} (hr:fs.Pairwise (· < ·)) (hb:∀b∈fs,b<2^m) {a:Nat} (ha:a<2^m):heldP (rsts m (hits m fs)) a = !sayP fs a:=by
 rw [←qn4 hr hb ha]
 rw [yay,heldP_iff]
 constructor
 · rintro ⟨b,hbm,s⟩
   obtain ⟨c,hc,rfl⟩:=qdZ.mp hbm
   have:=(qg5 ha (hits_lt c hc)).mp s
   cases e:hitP (hits m fs) a with
   | false=>rfl
   | true=>exact absurd (hitP_iff.mp e c hc) this
 · intro h
   have hn:¬∀c∈hits m fs,mt a c:=fun z=>by rw [hitP_iff.mpr z] at h;cases h
   obtain ⟨c,hc,hmc⟩:∃c∈hits m fs,¬mt a c:=by
     apply Classical.byContradiction
     intro z
     exact hn fun c hc=>Classical.byContradiction fun y=>z ⟨c,hc,y⟩
   exact ⟨_,qdZ.mpr ⟨c,hc,rfl⟩,(qg5 ha (hits_lt c hc)).mpr hmc⟩
def qnd {m:Nat} {fs:List Nat} (hb:∀b∈fs,b<2^m) (q:∀a∈fs,∀b∈fs,sub b a→b=a):∀a∈rsts m fs,∀b∈rsts m fs,sub b a→b=a:=by
 intro a ha b hbm s
 obtain ⟨c,hc,rfl⟩:=qdZ.mp ha
 obtain ⟨d,hd,rfl⟩:=qdZ.mp hbm
 rw [q d hd c hc (qi8 (hb d hd) (hb c hc) s)]
def qnQ {m:Nat} {A B:List Nat} (r1:A.Pairwise (· < ·)) (r2:B.Pairwise (· < ·)) (b1:∀a∈A,a<2^m) (b2:∀a∈B,a<2^m) (m1:∀a∈A,qjf A a) (m2:∀a∈B,qjf B a) (h:∀a,a<2^m→heldP A a=heldP B a):A=B:=by
 have key:∀{A B:List Nat},(∀a∈A,a<2^m)→(∀a∈B,a<2^m)→(∀a∈A,qjf A a)→(∀a,a<2^m→heldP A a=heldP B a)→∀a∈A,a∈B:=by
   intro A B b1 b2 m1 h a ha
   have h1:heldP A a=true:=heldP_iff.mpr ⟨a,ha,sub_refl a⟩
   rw [h a (b1 a ha)] at h1
   obtain ⟨b,hb,s⟩:=heldP_iff.mp h1
   have h2:heldP B b=true:=heldP_iff.mpr ⟨b,hb,sub_refl b⟩
   rw [←h b (b2 b hb)] at h2
   obtain ⟨c,hc,s2⟩:=heldP_iff.mp h2
   have:=m1 a ha c hc (qbS s s2)
   rw [this] at s2
   rw [qgz s s2]
   exact hb
 exact rise_ext r1 r2 fun x=>⟨key b1 b2 m1 h x,key b2 b1 m2 (fun a ha=>(h a ha).symm) x⟩
def qt2 {m:Nat} {f:Nat→Bool} (u:Up m f):rsts m (hits m (mins (yes m f)))=qro (yes m fun s=>!f s):=by
 have r:=qkV (qeY m f)
 have hb:∀a∈mins (yes m f),a<2^m:=fun a ha=>(qqn ha).1
 refine qnQ (m:=m) (qmj (hits_rise m _) hits_lt) (qkX (qeY m _)) rsts_lt (fun a ha=>(qpx ha).1) (fun a ha b hb2 s=>?_) (fun a ha b hb2 s=>?_) fun a ha=>?_
 · exact (qnd hits_lt qmz b hb2 a ha s).symm
 · exact (qeX.mp ha).2 b (qeX.mp hb2).1 s
 · rw [held_rests r hb ha,qq3 u ha,qiK u ha]
end Fam
namespace Fam
end Fam
namespace Fam
def nodup_le:∀(n:Nat) (L:List Nat),L.Nodup→(∀x∈L,x<n)→L.length≤n
 | 0,L,_,h=>by
   cases L with
   | nil=>exact yba _
   | cons a r=>exact absurd (h a (by simp)) (by omega)
 | n+1,L,hn,h=>by
   by_cases hm:n∈L
   · have h1:=nodup_le n (L.erase n) (hn.erase n) fun x hx=>by
       obtain ⟨h2,h3⟩:=hn.mem_erase_iff.mp hx
       have:=h x h3
       omega
     rw [ybw hm] at h1
     omega
   · have:=nodup_le n L hn fun x hx=>by
       have:=h x hx
       have:x≠n:=fun z=>hm (z▸hx)
       omega
     omega
end Fam
namespace Fam
def clr (a k:Nat):Nat:=if a.testBit k=true then qj9 a k else a
def qe5 (a k j:Nat):(clr a k).testBit j=(a.testBit j&&decide (j≠k)):=by
 unfold clr
 by_cases h:a.testBit k=true
 · rw [if_pos h,qd5 h]
 · rw [if_neg h]
   by_cases e:j=k
   · subst e
     simp at h
     simp [h]
   · simp [e]
def qsn (a k:Nat):clr a k≤a:=by
 unfold clr qj9
 split
 · exact Nat.sub_le _ _
 · exact yba _
def qbh (a k j:Nat):(a|||2^k).testBit j=(a.testBit j||decide (k=j)):=by
 rw [yao,yak]
def mins_sub {L:List Nat} (h:L.Pairwise (· < ·)):∀a∈mins L,a∈L:=fun a ha=>((qeV h).mp ha).1
end Fam
namespace Fam
def qmA {m a k:Nat} (ha:a<2^m) (hk:k<m):a|||2^k<2^m:=ybq ha (ybr (by decide) hk)
end Fam
namespace Fam
def partP (f:Nat→Bool) (x y s:Nat):Bool:=!s.testBit x&&!s.testBit y&&(f (s|||2^x)&&!f (s|||2^y))
def part (m:Nat) (f:Nat→Bool) (x y:Nat):Option Nat:=(List.range (2^m)).find? (partP f x y)
def trn (m:Nat) (f:Nat→Bool) (k:Nat):Nat:=((List.range (2^m)).filter fun s=>!f s&&f (s|||2^k)).length
def trns (m:Nat) (f:Nat→Bool):List Nat:=(List.range m).map (trn m f)
def qfW {f:Nat→Bool} {x y s:Nat}:partP f x y s=true↔s.testBit x=false∧s.testBit y=false∧f (s|||2^x)=true∧f (s|||2^y)=false:=by
 unfold partP
 cases s.testBit x<;>cases s.testBit y<;>cases f (s|||2^x)<;>cases f (s|||2^y)<;>simp
def qbw {m:Nat} {f:Nat→Bool} {x y:Nat}:part m f x y=none↔∀s,s<2^m→s.testBit x=false→s.testBit y=false→f (s|||2^x)=true→f (s|||2^y)=true:=by
 unfold part
 rw [ybx]
 constructor
 · intro h s hs h1 h2 h3
   have:=h s (ybk.mpr hs)
   rw [qfW] at this
   cases e:f (s|||2^y) with
   | true=>rfl
   | false=>exact absurd ⟨h1,h2,h3,e⟩ this
 · intro h s hs hp
   obtain ⟨h1,h2,h3,h4⟩:=qfW.mp hp
   rw [h s (ybk.mp hs) h1 h2 h3] at h4
   cases h4
def part_some {m:Nat} {f:Nat→Bool} {x y s:Nat} (h:part m f x y=some s):s<2^m∧s.testBit x=false∧s.testBit y=false∧f (s|||2^x)=true∧f (s|||2^y)=false :=
 ⟨ybk.mp (yby h),qfW.mp (List.find?_some h)⟩
def len_sub:∀(A B:List Nat),A.Nodup→(∀x∈A,x∈B)→A.length≤B.length
 | [],_,_,_=>ybz _
 | a::A,B,hn,hs=>by
   have hn':=yca.mp hn
   have ha:=hs a ybe
   have:=len_sub A (B.erase a) hn'.2 fun x hx=>(List.mem_erase_of_ne (fun z:x=a=>hn'.1 (z▸hx))).mpr (hs x (ybh _ hx))
   rw [ybw ha] at this
   have:=List.length_pos_of_mem ha
   simp only [ycb]
   omega
def qhM {A:List Nat} {g:Nat→Nat} (hn:A.Nodup) (hi:∀a∈A,∀b∈A,g a=g b→a=b):(A.map g).Nodup:=by
 unfold List.Nodup
 rw [ybv]
 exact List.Pairwise.imp_of_mem (fun {a b} ha hb hne e=>hne (hi a ha b hb e)) hn
def qoT {n:Nat} {c d:Nat→Bool} (g:Nat→Nat) (h:∀s,s<n→c s=true→g s<n∧d (g s)=true) (hi:∀s t,s<n→t<n→c s=true→c t=true→g s=g t→s=t):((List.range n).filter c).length≤((List.range n).filter d).length:=by
 have nd:((List.range n).filter c).Nodup:=ycc.sublist ybd
 have:=len_sub (((List.range n).filter c).map g) ((List.range n).filter d) (qhM nd fun a ha b hb e=>by
   rw [ybb,ybk] at ha hb
   exact hi a b ha.1 hb.1 ha.2 hb.2 e) fun x hx=>by
     obtain ⟨s,hs,rfl⟩:=ybt.mp hx
     rw [ybb,ybk] at hs ⊢
     exact h s hs.1 hs.2
 rwa [ycd] at this
def qsj {n:Nat} {c d:Nat→Bool} (g:Nat→Nat) (z:Nat) (hz:z<n) (dz:d z=true) (h:∀s,s<n→c s=true→g s<n∧d (g s)=true∧g s≠z) (hi:∀s t,s<n→t<n→c s=true→c t=true→g s=g t→s=t):((List.range n).filter c).length<((List.range n).filter d).length:=by
 have nd:((List.range n).filter c).Nodup:=ycc.sublist ybd
 have nm:=qhM nd (g:=g) fun a ha b hb e=>by
   rw [ybb,ybk] at ha hb
   exact hi a b ha.1 hb.1 ha.2 hb.2 e
 have:=len_sub (z::((List.range n).filter c).map g) ((List.range n).filter d) (yca.mpr ⟨fun hx=>by
   obtain ⟨s,hs,e⟩:=ybt.mp hx
   rw [ybb,ybk] at hs
   exact (h s hs.1 hs.2).2.2 e,nm⟩) fun x hx=>by
     rcases ybg.mp hx with rfl | hx
     · rw [ybb,ybk];exact ⟨hz,dz⟩
     obtain ⟨s,hs,rfl⟩:=ybt.mp hx
     rw [ybb,ybk] at hs ⊢
     exact ⟨(h s hs.1 hs.2).1,(h s hs.1 hs.2).2.1⟩
 simp only [ycb,ycd] at this
 omega
def swp (x y s:Nat):Nat:=if s.testBit x=true then clr s x|||2^y else s
def qja {x y s:Nat} (hx:s.testBit x=true) (j:Nat):(swp x y s).testBit j=((s.testBit j&&decide (j≠x))||decide (y=j)):=by
 unfold swp
 rw [if_pos hx,qbh,qe5]
def qb5 {s x:Nat} (f:Nat→Bool) (h1:f s=false) (h2:f (s|||2^x)=true):s.testBit x=false:=by
 cases e:s.testBit x with
 | false=>rfl
 | true =>
   have:s|||2^x=s:=yac fun i=>by
     rw [qbh]
     by_cases c:x=i
     · subst c;simp [e]
     · simp [c]
   rw [this,h1] at h2
   cases h2
def qjN {m:Nat} {f:Nat→Bool} {x y:Nat} (hxy:x≠y) (hx:x<m) (hy:y<m) (h:part m f y x=none) {s:Nat} (hs:s<2^m) (h1:f s=false) (h2:f (s|||2^y)=true):swp x y s<2^m∧f (swp x y s)=false∧f (swp x y s|||2^x)=true:=by
 have by':=qb5 f h1 h2
 cases bx:s.testBit x with
 | false =>
   have e:swp x y s=s:=by unfold swp;rw [if_neg (by rw [bx];decide)]
   rw [e]
   exact ⟨hs,h1,qbw.mp h s hs by' bx h2⟩
 | true =>
   have c1:(clr s x).testBit x=false:=by rw [qe5];simp
   have c2:(clr s x).testBit y=false:=by rw [qe5,by'];rfl
   have cl:clr s x<2^m:=ybl (qsn s x) hs
   have e:swp x y s=clr s x|||2^y:=by unfold swp;rw [if_pos bx]
   have e2:clr s x|||2^x=s:=yac fun i=>by
     rw [qbh,qe5]
     by_cases c:x=i
     · subst c;simp [bx]
     · simp [c,Ne.symm c]
   have e3:(clr s x|||2^y)|||2^x=s|||2^y:=yac fun i=>by
     rw [qbh,qbh,qe5,qbh]
     by_cases c:x=i
     · subst c;simp [bx]
     · simp [c,Ne.symm c]
   rw [e]
   refine ⟨ybq cl (ybr (by decide) hy),?_,by rw [e3];exact h2⟩
   cases z:f (clr s x|||2^y) with
   | false=>rfl
   | true =>
     have:=qbw.mp h (clr s x) cl c2 c1 z
     rw [e2,h1] at this
     cases this
def qk6 {x y s t:Nat} (hxy:x≠y) (hs:s.testBit y=false) (ht:t.testBit y=false) (e:swp x y s=swp x y t):s=t:=by
 have fx:∀u:Nat,u.testBit y=false→(swp x y u).testBit y=u.testBit x:=fun u hu=>by
   cases bx:u.testBit x with
   | true=>rw [qja bx];simp
   | false=>unfold swp;rw [if_neg (by rw [bx];decide),hu]
 have ex:s.testBit x=t.testBit x:=by rw [←fx s hs,←fx t ht,e]
 refine yac fun j=>?_
 by_cases c:j=x
 · rw [c];exact ex
 by_cases d:j=y
 · rw [d,hs,ht]
 have fj:∀u:Nat,(swp x y u).testBit j=u.testBit j:=fun u=>by
   cases bx:u.testBit x with
   | true=>rw [qja bx];simp [c,Ne.symm d]
   | false=>unfold swp;rw [if_neg (by rw [bx];decide)]
 rw [←fj s,←fj t,e]
def qbH {f:Nat→Bool} {s k:Nat}:(!f s&&f (s|||2^k))=true↔f s=false∧f (s|||2^k)=true:=by
 cases f s<;>simp
def qsh {m:Nat} {f:Nat→Bool} {x y:Nat} (hxy:x≠y) (hx:x<m) (hy:y<m) (h:part m f y x=none):trn m f y≤trn m f x:=by
 refine qoT (swp x y) (fun s hs hc=>?_) fun s t hs ht c1 c2 e=>?_
 · obtain ⟨h1,h2⟩:=qbH.mp hc
   obtain ⟨g1,g2,g3⟩:=qjN hxy hx hy h hs h1 h2
   exact ⟨g1,qbH.mpr ⟨g2,g3⟩⟩
 · obtain ⟨h1,h2⟩:=qbH.mp c1
   obtain ⟨g1,g2⟩:=qbH.mp c2
   exact qk6 hxy (qb5 f h1 h2) (qb5 f g1 g2) e
def qrG {m:Nat} {f:Nat→Bool} {x y z:Nat} (u:Up m f) (hxy:x≠y) (hx:x<m) (hy:y<m) (h:part m f y x=none) (hz:part m f x y=some z):trn m f y<trn m f x:=by
 obtain ⟨z0,zx,zy,z1,z2⟩:=part_some hz
 have pz:z|||2^y<2^m:=ybq z0 (ybr (by decide) hy)
 refine qsj (swp x y) (z|||2^y) pz (qbH.mpr ⟨z2,?_⟩) (fun s hs hc=>?_) fun s t hs ht c1 c2 e=>?_
 · refine u _ (z|||2^x) (ybq pz (ybr (by decide) hx)) (qa7.mpr fun k hk=>?_) z1
   rw [qbh] at hk
   rw [qbh,qbh]
   cases e:z.testBit k
   · rw [e] at hk;simpa using .inr (by simpa using hk)
   · simp
 · obtain ⟨h1,h2⟩:=qbH.mp hc
   obtain ⟨g1,g2,g3⟩:=qjN hxy hx hy h hs h1 h2
   refine ⟨g1,qbH.mpr ⟨g2,g3⟩,fun e=>?_⟩
   have by':=qb5 f h1 h2
   have bx:s.testBit x=true:=by
     cases bx:s.testBit x with
     | true=>rfl
     | false =>
       have e2:swp x y s=s:=by unfold swp;rw [if_neg (by rw [bx];decide)]
       rw [e2] at e
       have:=congrArg (fun w=>Nat.testBit w y) e
       simp only [by',qbh,decide_true,Bool.or_true] at this
       cases this
   have es:s=z|||2^x:=yac fun j=>by
     have:=congrArg (fun w=>Nat.testBit w j) e
     simp only [qja bx,qbh] at this
     rw [qbh]
     by_cases c:x=j
     · subst c;simp [bx]
     by_cases d:y=j
     · subst d;simp [by',zy,c]
     simpa [c,d,Ne.symm c] using this
   rw [es,z1] at h1
   cases h1
 · obtain ⟨h1,h2⟩:=qbH.mp c1
   obtain ⟨g1,g2⟩:=qbH.mp c2
   exact qk6 hxy (qb5 f h1 h2) (qb5 f g1 g2) e
def part_turns {m:Nat} {f:Nat→Bool} {x y:Nat} (u:Up m f) (hxy:x≠y) (hx:x<m) (hy:y<m) (h:part m f x y=none∨part m f y x=none):(part m f x y=none↔trn m f x≤trn m f y):=by
 constructor
 · intro z
   exact qsh (Ne.symm hxy) hy hx z
 · intro z
   cases e:part m f x y with
   | none=>rfl
   | some s =>
     rcases h with h | h
     · rw [e] at h;cases h
     · have:=qrG u hxy hx hy h e
       omega
def qmH {m:Nat} {f g:Nat→Bool} {k:Nat} (hk:k<m) (h:∀s,s<2^m→f s=g s):trn m f k=trn m g k:=by
 unfold trn
 congr 1
 refine yau fun s hs=>?_
 have hs:=ybk.mp hs
 rw [h s hs,h (s|||2^k) (ybq hs (ybr (by decide) hk))]
end Fam
namespace Fam
def wt (ws:List Nat) (s:Nat):Nat:=((nms 8 s).map fun k=>ws.getD k 0).sum
def qge (c:Nat→Bool) (g:Nat→Nat):∀L:List Nat,((L.filter c).map g).sum=(L.map fun k=>if c k=true then g k else 0).sum
 | []=>rfl
 | a::L=>by
   rw [yce]
   cases h:c a<;>simp [h,qge c g L]
def qnU (ws:List Nat) (s:Nat):wt ws s=((List.range 8).map fun k=>if s.testBit k=true then ws.getD k 0 else 0).sum:=qge _ _ _
def qoY {g h:Nat→Nat}:∀{L:List Nat},(∀j∈L,g j≤h j)→(L.map g).sum≤(L.map h).sum
 | [],_=>yba _
 | a::L,H=>by
   have:=qoY (L:=L) fun j hj=>H j (ybh _ hj)
   have:=H a ybe
   simp only [ycf,ycg]
   omega
def qkU {g h:Nat→Nat} {k:Nat} (hk:h k=0):∀{L:List Nat},L.Nodup→k∈L→(∀j∈L,j≠k→h j=g j)→(L.map h).sum+g k=(L.map g).sum
 | [],_,hm,_=>by cases hm
 | a::L,hn,hm,H=>by
   have hn':=yca.mp hn
   simp only [ycf,ycg]
   by_cases c:a=k
   · subst c
     have e:L.map h=L.map g:=ych fun j hj=>H j (ybh _ hj) fun z=>hn'.1 (z▸hj)
     rw [e,hk]
     omega
   · have:=qkU hk hn'.2 ((ybg.mp hm).resolve_left fun z=>c z.symm) fun j hj hne=>H j (ybh _ hj) hne
     have:=H a ybe c
     omega
def wt_sub {ws:List Nat} {a b:Nat} (h:sub b a):wt ws b≤wt ws a:=by
 rw [qnU,qnU]
 refine qoY fun j _=>?_
 by_cases c:b.testBit j=true
 · rw [if_pos c,if_pos (qa7.mp h j c)]
   exact yba _
 · rw [if_neg c]
   exact ybz _
def qqw {ws:List Nat} {a k:Nat} (hk:k<8) (h:a.testBit k=true):wt ws (qj9 a k)+ws.getD k 0=wt ws a:=by
 rw [qnU,qnU]
 have:=qkU (g:=fun j=>if a.testBit j=true then ws.getD j 0 else 0) (h:=fun j=>if (qj9 a k).testBit j=true then ws.getD j 0 else 0) (k:=k) (by rw [qd5 h];simp) ycc (ybk.mpr hk) fun j _ hne=>by
   rw [qd5 h]
   simp [hne]
 rw [if_pos h] at this
 exact this
end Fam
namespace Fam
def qlS {ws:List Nat} {a k:Nat} (hk:k<8) (h:a.testBit k=false):wt ws (a|||2^k)=wt ws a+ws.getD k 0:=by
 have h1:(a|||2^k).testBit k=true:=by rw [qbh];simp
 have:=qqw (ws:=ws) hk h1
 have e:qj9 (a|||2^k) k=a:=yac fun j=>by
   rw [qd5 h1,qbh]
   by_cases c:k=j
   · subst c;simp [h]
   · simp [c,Ne.symm c]
 rw [e] at this
 omega
end Fam
namespace Fam
structure Ord (m:Nat) (o:List Nat):Prop where
 len:o.length=m
 lt:∀x∈o,x<m
 nd:o.Nodup
def at' (o:List Nat) (k:Nat):Nat:=o.getD k 0
def Ord.get {m:Nat} {o:List Nat} (h:Ord m o) {k:Nat} (hk:k<m):o[k]?=some (at' o k):=by
 unfold at'
 rw [yci,ycj (by rw [h.len];exact hk)]
 rfl
def Ord.at_lt {m:Nat} {o:List Nat} (h:Ord m o) {k:Nat} (hk:k<m):at' o k<m:=h.lt _ (yck (h.get hk))
def Ord.inj {m:Nat} {o:List Nat} (h:Ord m o) {j k:Nat} (hj:j<m) (hk:k<m) (e:at' o j=at' o k):j=k:=by
 have h1:=h.get hj
 have h2:=h.get hk
 have l:=h.len
 obtain ⟨w1,g1⟩:=ycl.mp h1
 obtain ⟨w2,g2⟩:=ycl.mp h2
 have nd:=ycm.mp h.nd
 rcases Nat.lt_trichotomy j k with z | z | z
 · exact absurd (by rw [g1,g2,e]) (nd j k w1 w2 z)
 · exact z
 · exact absurd (by rw [g1,g2,e]) (nd k j w2 w1 z)
def Ord.sur {m:Nat} {o:List Nat} (h:Ord m o) {j:Nat} (hj:j<m):∃k,k<m∧at' o k=j:=by
 by_cases hm:j∈o
 · obtain ⟨k,hk,e⟩:=ycn hm
   have hk':k<m:=by rw [←h.len];exact hk
   refine ⟨k,hk',?_⟩
   have:=h.get hk'
   rw [ycj hk,e] at this
   exact (Option.some.inj this).symm
 · have:=nodup_le m (j::o) (yca.mpr ⟨hm,h.nd⟩) (fun x hx=>by
     rcases ybg.mp hx with rfl | z
     · exact hj
     · exact h.lt x z)
   rw [ycb,h.len] at this
   omega
def ex (o:List Nat) (a:Nat):Nat:=ofN ((nms 8 a).map (at' o))
def qlx {o:List Nat} {a j:Nat}:(ex o a).testBit j=true↔∃k,k<8∧a.testBit k=true∧at' o k=j:=by
 unfold ex
 rw [qiI,decide_eq_true_eq,ybt]
 constructor
 · rintro ⟨k,hk,e⟩
   obtain ⟨h1,h2⟩:=mem_nms.mp hk
   exact ⟨k,h1,h2,e⟩
 · rintro ⟨k,h1,h2,e⟩
   exact ⟨k,mem_nms.mpr ⟨h1,h2⟩,e⟩
section
variable {m:Nat} {o:List Nat}
def ex_lt (h:Ord m o) {a:Nat} (ha:a<2^m):ex o a<2^m:=by
 unfold ex
 refine qsU fun j hj=>?_
 obtain ⟨k,hk,rfl⟩:=ybt.mp hj
 exact h.at_lt (bit_low ha (mem_nms.mp hk).2)
def qgB (hm:m≤8) (h:Ord m o) {a k:Nat} (ha:a<2^m) (hk:k<m):(ex o a).testBit (at' o k)=a.testBit k:=by
 rw [yay,qlx]
 constructor
 · rintro ⟨j,_,h1,e⟩
   rw [←h.inj (bit_low ha h1) hk e]
   exact h1
 · intro hb
   exact ⟨k,by omega,hb,rfl⟩
def qpr (h:Ord m o) {x y:Nat} (hx:x<2^m) (hy:y<2^m) (q:∀k,k<m→x.testBit (at' o k)=y.testBit (at' o k)):x=y:=by
 apply yac
 intro j
 rcases yah j m with z | z
 · obtain ⟨k,hk,rfl⟩:=h.sur z
   exact q k hk
 · rw [qhl hx z,qhl hy z]
def ex_sub (hm:m≤8) (h:Ord m o) {a b:Nat} (ha:a<2^m) (hb:b<2^m):sub (ex o b) (ex o a)↔sub b a:=by
 rw [qa7,qa7]
 constructor
 · intro q k hk
   have km:=bit_low hb hk
   have:=q (at' o k) (by rw [qgB hm h hb km];exact hk)
   rw [qgB hm h ha km] at this
   exact this
 · intro q j hj
   obtain ⟨k,k8,h1,e⟩:=qlx.mp hj
   exact qlx.mpr ⟨k,k8,q k h1,e⟩
def qsG (hm:m≤8) (h:Ord m o) {a b:Nat} (ha:a<2^m) (hb:b<2^m) (e:ex o a=ex o b):a=b :=
 qgz ((ex_sub hm h hb ha).mp (by rw [e];exact sub_refl _)) ((ex_sub hm h ha hb).mp (by rw [e];exact sub_refl _))
def back (o:List Nat):List Nat:=(List.range o.length).map fun j=>o.idxOf j
def qlQ (h:Ord m o) {j:Nat} (hj:j<m):at' (back o) j=o.idxOf j:=by
 unfold at' back
 rw [yci,yco,h.len,ycp hj]
 rfl
def idx_at (h:Ord m o) {k:Nat} (hk:k<m):o.idxOf (at' o k)=k:=by
 have hm:=yck (h.get hk)
 have hi:o.idxOf (at' o k)<o.length:=ycq.mpr hm
 have e:o[o.idxOf (at' o k)]=at' o k:=ycr hi
 have hi':o.idxOf (at' o k)<m:=by rw [←h.len];exact hi
 refine h.inj hi' hk ?_
 have:=h.get hi'
 rw [ycj hi,e] at this
 exact (Option.some.inj this).symm
def back_ord (h:Ord m o):Ord m (back o):=by
 refine ⟨by unfold back;simp [h.len],fun x hx=>?_,?_⟩
 · unfold back at hx
   obtain ⟨j,hj,rfl⟩:=ybt.mp hx
   rw [h.len] at hj
   obtain ⟨k,hk,rfl⟩:=h.sur (ybk.mp hj)
   rw [idx_at h hk]
   exact hk
 · unfold back List.Nodup
   rw [ybv]
   refine List.Pairwise.imp_of_mem (fun {a b} ha hb hab e=>?_) ybj
   rw [h.len] at ha hb
   obtain ⟨j,hj,rfl⟩:=h.sur (ybk.mp ha)
   obtain ⟨k,hk,rfl⟩:=h.sur (ybk.mp hb)
   rw [idx_at h hj,idx_at h hk] at e
   subst e
   omega
def ex_back (hm:m≤8) (h:Ord m o) {a:Nat} (ha:a<2^m):ex o (ex (back o) a)=a:=by
 have hb:=back_ord h
 have h1:=ex_lt hb ha
 refine qpr h (ex_lt h h1) ha fun k hk=>?_
 rw [qgB hm h h1 hk]
 have hk2:=h.at_lt hk
 have e:at' (back o) (at' o k)=k:=by rw [qlQ h hk2,idx_at h hk]
 conv=>lhs;rw [←e]
 rw [qgB hm hb ha hk2]
def qn8 (hm:m≤8) (h:Ord m o) {a k:Nat} (ha:a<2^m) (hk:k<m):ex o (a|||2^k)=ex o a|||2^at' o k:=by
 have h1:=qmA ha hk
 refine qpr h (ex_lt h h1) (qmA (ex_lt h ha) (h.at_lt hk)) fun j hj=>?_
 rw [qgB hm h h1 hj,qbh,qbh,qgB hm h ha hj]
 by_cases e:k=j
 · subst e;simp
 · have:at' o k≠at' o j:=fun z=>e (h.inj hk hj z)
   simp [e,this]
end
end Fam
namespace Fam
section
variable {m:Nat} {o:List Nat} {f g:Nat→Bool}
def qhG (hm:m≤8) (h:Ord m o) (e:∀a,a<2^m→g (ex o a)=f a) {k:Nat} (hk:k<m):trn m f k≤trn m g (at' o k):=by
 refine qoT (ex o) (fun s hs hc=>?_) fun s t hs ht _ _ z=>qsG hm h hs ht z
 obtain ⟨h1,h2⟩:=qbH.mp hc
 refine ⟨ex_lt h hs,qbH.mpr ⟨by rw [e s hs];exact h1,?_⟩⟩
 rw [←qn8 hm h hs hk,e _ (qmA hs hk)]
 exact h2
def qpG (hm:m≤8) (h:Ord m o) (e:∀a,a<2^m→g (ex o a)=f a):∀a,a<2^m→f (ex (back o) a)=g a:=fun a ha=>by
 rw [←e _ (ex_lt (back_ord h) ha),ex_back hm h ha]
def trn_ex (hm:m≤8) (h:Ord m o) (e:∀a,a<2^m→g (ex o a)=f a) {k:Nat} (hk:k<m):trn m g (at' o k)=trn m f k:=by
 refine yad ?_ (qhG hm h e hk)
 have:=qhG hm (back_ord h) (qpG hm h e) (h.at_lt hk)
 rwa [qlQ h (h.at_lt hk),idx_at h hk] at this
def part_ex_none (hm:m≤8) (h:Ord m o) (e:∀a,a<2^m→g (ex o a)=f a) {x y:Nat} (hx:x<m) (hy:y<m) (z:part m g (at' o x) (at' o y)=none):part m f x y=none:=by
 rw [qbw] at z ⊢
 intro s hs b1 b2 h1
 have:=z (ex o s) (ex_lt h hs) (by rw [qgB hm h hs hx];exact b1) (by rw [qgB hm h hs hy];exact b2) (by rw [←qn8 hm h hs hx,e _ (qmA hs hx)];exact h1)
 rwa [←qn8 hm h hs hy,e _ (qmA hs hy)] at this
end
end Fam
namespace Fam
def tb (n:Nat) (f:Nat→Bool):List Bool:=(List.range n).map f
def bLe (A B:List Bool):Bool:=(A.zip B).all fun p=>!p.1||p.2
def qu3 (m:Nat) (A B:List Bool):Bool:=bLe A B&&match m with
 | 0=>true
 | k+1=>bLe (B.take (2^k)) (A.drop (2^k))
def qni:Nat→List (List Bool)
 | 0=>[[false],[true]]
 | m+1=>(qni m).flatMap fun A=>((qni m).filter (qu3 m A)).map (A++·)
def gdc (m:Nat) (T:List Bool) (c:List Nat×Nat):Bool :=
 ((List.range m).all fun i=>decide (c.1.getD i 0≤5))&&(((List.range m).all fun i=>(List.range m).all fun j=>decide (trn m (fun s=>T.getD s false) j<trn m (fun s=>T.getD s false) i)==decide (c.1.getD j 0<c.1.getD i 0)) &&
   (List.range (2^m)).all fun s=>T.getD s false==decide (c.2≤wt c.1 s))
def chk (m:Nat):List (List Bool)→List (List Nat×Nat)→Bool
 | [],_=>true
 | _::_,[]=>false
 | T::Ts,c::cs=>gdc m T c&&chk m Ts cs
def qdz {m:Nat}:∀{Ts:List (List Bool)} {cs:List (List Nat×Nat)},chk m Ts cs=true→∀T∈Ts,∃c,gdc m T c=true
 | [],_,_,T,h=>by cases h
 | _::_,[],h,_,_=>by cases h
 | U::Ts,c::cs,h,T,hT=>by
   have h':=ycs.mp (show (gdc m U c&&chk m Ts cs)=true from h)
   rcases ybg.mp hT with rfl | z
   · exact ⟨c,h'.1⟩
   · exact qdz h'.2 T z
def qtN:List (List Nat×Nat):=[([],1),([],0)]
def qtX:List (List Nat×Nat):=[([0],1),([1],1),([0],0)]
def qtP:List (List Nat×Nat):=[([0,0],1),([1,1],2),([1,0],1),([1,1],1),([0,0],0)]
def qui:List (List Nat×Nat):=[([0,0,0],1),([1,1,1],3),([1,1,0],2),([2,1,1],3),([1,1,1],2),([1,0,0],1),([2,1,1],2),([1,1,0],1),([1,1,1],1),([0,0,0],0)]
def qtY:List (List Nat×Nat):=[([0,0,0,0],1),([1,1,1,1],4),([1,1,1,0],3),([2,2,1,1],5),([2,1,1,1],4),([1,1,1,1],3),([1,1,0,0],2),([3,2,1,1],5),([2,2,1,1],4),([2,1,1,0],3),([3,2,2,1],5),([3,1,1,1],4),([2,1,1,1],3),([1,1,1,0],2),([3,2,2,1],4),([2,2,1,1],3),([1,1,1,1],2),([1,0,0,0],1),([3,1,1,1],3),([2,1,1,0],2),([3,2,1,1],3),([2,1,1,1],2),([1,1,0,0],1),([2,2,1,1],2),([1,1,1,0],1),([1,1,1,1],1),([0,0,0,0],0)]
def quh:List (List Nat×Nat):=[([0,0,0,0,0],1),([1,1,1,1,1],5),([1,1,1,1,0],4),([2,2,2,1,1],7),([2,2,1,1,1],6),([2,1,1,1,1],5),([1,1,1,1,1],4),([1,1,1,0,0],3),([3,3,2,1,1],8),([3,2,2,1,1],7),([2,2,2,1,1],6),([2,2,1,1,0],5),([4,3,2,2,1],9),([3,3,2,2,1],8),([3,3,1,1,1],7),([3,2,1,1,1],6),([2,2,1,1,1],5),([2,1,1,1,0],4),([3,2,2,2,1],7),([5,3,2,2,1],9),([4,3,2,2,1],8),([4,2,2,1,1],7),([3,2,2,1,1],6),([3,1,1,1,1],5),([2,1,1,1,1],4),([1,1,1,1,0],3),([3,3,2,2,1],7),([4,3,3,2,1],8),([3,2,2,2,1],6),([2,2,2,1,1],5),([4,3,3,2,2],8),([3,3,2,2,2],7),([1,1,1,1,1],3),([1,1,0,0,0],2),([4,3,1,1,1],7),([3,3,1,1,1],6),([3,2,1,1,0],5),([5,4,2,2,1],9),([5,3,2,1,1],8),([4,3,2,1,1],7),([4,2,1,1,1],6),([3,2,1,1,1],5),([2,2,1,1,0],4),([5,4,3,2,1],9),([4,3,2,2,1],7),([3,3,2,1,1],6),([5,4,3,2,2],9),([2,2,1,1,1],4),([3,3,2,2,2],6),([2,1,1,0,0],3),([5,3,3,1,1],8),([5,2,2,1,1],7),([4,2,2,1,1],6),([3,2,2,1,0],5),([5,3,3,2,1],8),([4,3,3,1,1],7),([3,2,2,1,1],5),([5,4,3,2,2],8),([4,3,3,2,2],7),([3,1,1,1,0],4),([5,2,2,2,1],7),([4,1,1,1,1],5),([3,1,1,1,1],4),([2,1,1,1,0],3),([5,3,3,2,1],7),([4,3,2,2,1],6),([3,2,2,2,1],5),([5,2,2,2,1],6),([4,2,2,1,1],5),([3,2,1,1,1],4),([2,1,1,1,1],3),([1,1,1,0,0],2),([4,3,3,1,1],6),([3,3,2,1,1],5),([2,2,2,1,1],4),([3,2,2,1,0],4),([5,4,3,2,1],7),([4,3,3,2,1],6),([5,3,3,1,1],6),([4,3,2,1,1],5),([3,2,2,1,1],4),([2,2,1,1,0],3),([3,3,2,2,1],5),([5,4,2,2,1],6),([4,3,2,2,1],5),([3,3,1,1,1],4),([2,2,1,1,1],3),([1,1,1,1,0],2),([3,2,2,2,1],4),([3,3,2,2,1],4),([2,2,2,1,1],3),([1,1,1,1,1],2),([1,0,0,0,0],1),([4,1,1,1,1],4),([3,1,1,1,0],3),([5,2,2,1,1],5),([4,2,1,1,1],4),([3,1,1,1,1],3),([2,1,1,0,0],2),([5,3,2,1,1],5),([4,2,2,1,1],4),([3,2,1,1,0],3),([5,3,2,2,1],5),([4,3,1,1,1],4),([3,2,1,1,1],3),([2,1,1,1,0],2),([4,3,2,2,1],4),([3,2,2,1,1],3),([2,1,1,1,1],2),([1,1,0,0,0],1),([3,3,1,1,1],3),([2,2,1,1,0],2),([3,3,2,1,1],3),([2,2,1,1,1],2),([1,1,1,0,0],1),([2,2,2,1,1],2),([1,1,1,1,0],1),([1,1,1,1,1],1),([0,0,0,0,0],0)]
def quO:chk 0 (qni 0) qtN=true:=by decide +kernel
def qu4:chk 1 (qni 1) qtX=true:=by decide +kernel
def quW:chk 2 (qni 2) qtP=true:=by decide +kernel
def quZ:chk 3 (qni 3) qui=true:=by decide +kernel
def qu8:chk 4 (qni 4) qtY=true:=by decide +kernel
def quQ:chk 5 (qni 5) quh=true:=by decide +kernel
def qoi {m:Nat} (hm:m≤5):∀T∈qni m,∃c,gdc m T c=true:=by
 have:m=0∨m=1∨m=2∨m=3∨m=4∨m=5:=by omega
 rcases this with rfl | rfl | rfl | rfl | rfl | rfl
 · exact qdz quO
 · exact qdz qu4
 · exact qdz quW
 · exact qdz quZ
 · exact qdz qu8
 · exact qdz quQ
def qpy (n:Nat) (f:Nat→Bool):(tb n f).length=n:=by simp [tb]
def qos {n:Nat} {f g:Nat→Bool} (h:∀s,s<n→f s=g s):tb n f=tb n g:=ych fun s hs=>h s (ybk.mp hs)
def qrD (a b:Nat) (f:Nat→Bool):tb (a+b) f=tb a f++tb b fun s=>f (a+s):=by
 unfold tb
 rw [yct,ycu,ycv]
 rfl
def qpn {m s:Nat} (hs:s<2^m):2^m+s=s|||2^m:=by
 have:=Nat.two_pow_add_eq_or_of_lt hs 1
 rw [Nat.mul_one] at this
 rw [this,Nat.or_comm]
def qle (m:Nat) (f:Nat→Bool):tb (2^(m+1)) f=tb (2^m) f++tb (2^m) fun s=>f (s|||2^m):=by
 rw [show 2^(m+1)=2^m+2^m by omega,qrD]
 congr 1
 exact qos fun s hs=>by rw [qpn hs]
def qo7 {n:Nat} {f g:Nat→Bool} (h:∀s,s<n→f s=true→g s=true):bLe (tb n f) (tb n g)=true:=by
 unfold bLe tb
 rw [List.zip_map',List.all_map,ybi]
 intro s hs
 have:=h s (ybk.mp hs)
 show (!f s||g s)=true
 cases e:f s
 · rfl
 · rw [this e];rfl
def Reg (m:Nat) (f:Nat→Bool):Prop:=∀i j,i<j→j<m→part m f j i=none
def qst (a b c:Nat):a|||b|||c=a|||c|||b:=by rw [Nat.or_assoc,Nat.or_comm b,←Nat.or_assoc]
def qmR {m s k:Nat} (hs:s<2^m) (hk:m≤k):s.testBit k=false:=yae (yaf hs (yag (by decide) hk))
def qbN {m s:Nat} (hs:s<2^m):s<2^(m+1):=yaf hs (yag (by decide) (ycw m))
def qiU:∀{m:Nat} {f:Nat→Bool},Up m f→Reg m f→tb (2^m) f∈qni m
 | 0,f,_,_=>by
   show [f 0]∈[[false],[true]]
   cases f 0<;>simp
 | m+1,f,u,r=>by
   have hi:∀s,s<2^m→s|||2^m<2^(m+1):=fun s hs=>ybq (qbN hs) (ybr (by decide) (ycx m))
   have u0:Up m f:=fun a b ha hs hb=>u a b (qbN ha) hs hb
   have r0:Reg m f:=fun i j h1 h2=>by
     have:=qbw.mp (r i j h1 (by omega))
     exact qbw.mpr fun s hs=>this s (qbN hs)
   have u1:Up m fun s=>f (s|||2^m):=fun a b ha hs hb=>u _ (b|||2^m) (hi a ha) (qa7.mpr fun k hk=>by
     rw [qbh] at hk ⊢
     rcases (ycy _ _).mp hk with z | z
     · rw [qa7.mp hs k z];rfl
     · rw [z];simp) hb
   have r1:Reg m fun s=>f (s|||2^m):=fun i j h1 h2=>by
     have:=qbw.mp (r i j h1 (by omega))
     refine qbw.mpr fun s hs b1 b2 h3=>?_
     have g1:(s|||2^m).testBit j=false:=by rw [qbh,b1];simp;omega
     have g2:(s|||2^m).testBit i=false:=by rw [qbh,b2];simp;omega
     have:=this (s|||2^m) (hi s hs) g1 g2
     rw [qst s (2^m),qst s (2^m)] at this
     exact this h3
   rw [qle]
   refine ycz.mpr ⟨_,qiU u0 r0,ybt.mpr ⟨_,ybb.mpr ⟨qiU u1 r1,?_⟩,rfl⟩⟩
   refine ycs.mpr ⟨qo7 fun s hs h=>u _ s (hi s hs) (qa7.mpr fun k hk=>by rw [qbh,hk];rfl) h,?_⟩
   cases m with
   | zero=>rfl
   | succ k =>
     show bLe ((tb (2^(k+1)) fun s=>f (s|||2^(k+1))).take (2^k)) ((tb (2^(k+1)) f).drop (2^k))=true
     rw [qle,qle,List.take_left' (qpy _ _),List.drop_left' (qpy _ _)]
     refine qo7 fun s hs h=>?_
     exact qbw.mp (r k (k+1) (ycx k) (by omega)) s (qbN (qbN hs)) (qmR hs (by omega)) (qmR hs (yba _)) h
def qpb {n s:Nat} {f:Nat→Bool} (hs:s<n):(tb n f).getD s false=f s:=by
 unfold tb
 rw [yci,yco,ycp hs]
 rfl
def reg_wt {m:Nat} {f:Nat→Bool} (hm:m≤5) (u:Up m f) (r:Reg m f):∃(W:List Nat) (b:Nat),(∀i,i<m→W.getD i 0≤5)∧(∀i j,i<m→j<m→(trn m f j<trn m f i↔W.getD j 0<W.getD i 0))∧∀s,s<2^m→f s=decide (b≤wt W s):=by
 obtain ⟨⟨W,b⟩,h⟩:=qoi hm _ (qiU u r)
 have h':=ycs.mp h
 have h'':=ycs.mp h'.2
 have et:∀k,k<m→trn m (fun s=>(tb (2^m) f).getD s false) k=trn m f k:=fun k hk=>qmH hk fun s hs=>qpb hs
 refine ⟨W,b,fun i hi=>?_,fun i j hi hj=>?_,fun s hs=>?_⟩
 · exact of_decide_eq_true (ybi.mp h'.1 i (ybk.mpr hi))
 · have:=ybi.mp (ybi.mp h''.1 i (ybk.mpr hi)) j (ybk.mpr hj)
   have e:=eq_of_beq this
   rw [et i hi,et j hj,yay,decide_eq_true_eq,decide_eq_true_eq] at e
   exact e
 · have:=eq_of_beq (ybi.mp h''.2 s (ybk.mpr hs))
   rw [qpb hs] at this
   exact this
def wt_ex {m:Nat} {o W N:List Nat} (hm:m≤8) (h:Ord m o) (e:∀k,k<m→N.getD (at' o k) 0=W.getD k 0):∀{a:Nat},a<2^m→wt N (ex o a)=wt W a:=by
 have key:∀k,k≤m→∀a,a<2^k→wt N (ex o a)=wt W a:=fun k=>by
   induction k with
   | zero =>
     intro _ a ha
     obtain rfl:a=0:=by simpa using ha
     have e0:nms 8 0=[]:=by decide
     have e1:ex o 0=0:=by unfold ex;rw [e0];rfl
     rw [e1];unfold wt;rw [e0];rfl
   | succ k ih =>
     intro hk a ha
     by_cases c:a<2^k
     · exact ih (by omega) a c
     · have hp:2^(k+1)=2^k+2^k:=by omega
       have hb:a-2^k<2^k:=by omega
       have ea:a=(a-2^k)|||2^k:=by rw [←qpn hb];omega
       have lb:a-2^k<2^m:=yaf hb (yag (by decide) (by omega))
       have km:k<m:=by omega
       have n1:(a-2^k).testBit k=false:=qmR hb (yba _)
       generalize a-2^k=b at *
       rw [ea,qn8 hm h lb km,qlS (by have:=h.at_lt km;omega) (by rw [qgB hm h lb km];exact n1),qlS (by omega) n1,ih (by omega) b hb,e k km]
 exact fun {a} ha=>key m (yba _) a ha
end Fam
namespace STb
open PySem PySem.SetTable
def Ris (xs:Array Nat):Prop:=xs.toList.Pairwise (· < ·)
def Ris.lt {xs:Array Nat} (h:Ris xs) {i j a b:Nat} (hij:i<j) (ha:xs[i]?=some a) (hb:xs[j]?=some b):a<b:=by
 have h':=ycm.mp h
 rw [←yda] at ha hb
 obtain ⟨h1,e1⟩:=ycl.mp ha
 obtain ⟨h2,e2⟩:=ycl.mp hb
 have:=h' i j h1 h2 hij
 rw [e1,e2] at this
 exact this
def Ris.le {xs:Array Nat} (h:Ris xs) {i j a b:Nat} (hij:i≤j) (ha:xs[i]?=some a) (hb:xs[j]?=some b):a≤b:=by
 rcases yah i j with z | z
 · exact ydb (h.lt z ha hb)
 · have:i=j:=by omega
   subst this
   rw [ha] at hb
   cases hb
   exact yba _
def qiX {xs:Array Nat} (h:Ris xs) (j:Nat):∀(fuel lo hi:Nat),hi-lo≤fuel→lo≤hi→hi≤xs.size →
   (∀i y,i<lo→xs[i]?=some y→y<j)→(∀i y,hi≤i→xs[i]?=some y→j≤y) →
   below.go xs j fuel lo hi≤xs.size∧(∀i y,i<below.go xs j fuel lo hi→xs[i]?=some y→y<j)∧(∀i y,below.go xs j fuel lo hi≤i→xs[i]?=some y→j≤y)
 | 0,lo,hi,hf,hl,hs,h1,h2=>by
   have:lo=hi:=by omega
   subst this
   exact ⟨hs,h1,h2⟩
 | fuel+1,lo,hi,hf,hl,hs,h1,h2=>by
   rw [below.go]
   by_cases hlt:lo<hi
   · rw [if_pos hlt]
     dsimp only
     have hm:(lo+hi)/2<xs.size:=by omega
     have hg:xs[(lo+hi)/2]?=some (xs.getD ((lo+hi)/2) j):=by simp [Array.getD,hm]
     by_cases hc:xs.getD ((lo+hi)/2) j<j
     · rw [if_pos hc]
       refine qiX h j fuel _ _ (by omega) (by omega) hs (fun i y hi' e=>?_) h2
       exact ybl (h.le (by omega) e hg) hc
     · rw [if_neg hc]
       refine qiX h j fuel _ _ (by omega) (by omega) (by omega) h1 (fun i y hi' e=>?_)
       exact ydc (Nat.not_lt.mp hc) (h.le hi' hg e)
   · rw [if_neg hlt]
     have:lo=hi:=by omega
     subst this
     exact ⟨hs,h1,h2⟩
def qes {xs:Array Nat} (h:Ris xs) (j:Nat):below xs j≤xs.size∧(∀i y,i<below xs j→xs[i]?=some y→y<j)∧(∀i y,below xs j≤i→xs[i]?=some y→j≤y) :=
 qiX h j xs.size 0 xs.size (by omega) (ybz _) (yba _) (fun i y hi=>by omega) (fun i y hi e=>by
   rw [ydd (by omega)] at e
   cases e)
def qkJ {xs:Array Nat} (h:Ris xs):below xs 0=0:=by
 obtain ⟨h0,h1,_⟩:=qes h 0
 rcases yde (below xs 0) with z | z
 · exact z
 · have hlt:0<xs.size:=by omega
   have:=h1 0 xs[0] z (by simp)
   omega
def qkF {xs:Array Nat} (h:Ris xs) {i y:Nat} (e:xs[i]?=some y):below xs (y+1)=i+1:=by
 obtain ⟨h0,h1,h2⟩:=qes h (y+1)
 have hi:i<xs.size:=by
   rcases yah i xs.size with z | z
   · exact z
   · rw [ydd z] at e;cases e
 have g1:¬below xs (y+1)≤i:=fun z=>by have:=h2 i y z e;omega
 have g2:¬i+1<below xs (y+1):=fun z=>by
   have hlt:i+1<xs.size:=by omega
   have q:=h1 (i+1) xs[i+1] z (by simp [hlt])
   have q':=h.lt (ycx i) e (show xs[i+1]?=some xs[i+1] by simp [hlt])
   omega
 omega
def qfo {α:Type} (xs:Array α) (p:Nat) (hp:p≤xs.size) (x:α):(insertAt xs p x).toList=xs.toList.take p++x::xs.toList.drop p:=by
 unfold insertAt
 have e2:(xs.extract p xs.size).toList=xs.toList.drop p:=by
   rw [ydf,List.extract_eq_drop_take]
   have:xs.size-p=(xs.toList.drop p).length:=by rw [ydg,ydh]
   rw [this,ydi]
 have e1:(xs.extract 0 p).toList=xs.toList.take p:=by
   rw [ydf,List.extract_eq_drop_take]
   rfl
 rw [Array.toList_append,ydj,e1,e2,ydk]
 rfl
def qqS {t:SetTable} (h:Ris t.place) {j:Nat} (hj:t.place[below t.place j]?≠some j):Ris (t.put j).1.place:=by
 obtain ⟨h0,h1,h2⟩:=qes h j
 unfold SetTable.put Ris
 dsimp only
 rw [qfo _ _ h0]
 have hp:(t.place.toList.take (below t.place j)++t.place.toList.drop (below t.place j)).Pairwise (· < ·):=by rw [ydl];exact h
 obtain ⟨p1,p2,p3⟩:=yat.mp hp
 refine yat.mpr ⟨p1,ybf.mpr ⟨fun y hy=>?_,p2⟩,fun x hx y hy=>?_⟩
 · obtain ⟨i,e⟩:=ydm hy
   rw [List.getElem?_drop,yda] at e
   have q:=h2 _ y (Nat.le_add_right _ _) e
   rcases yah j y with z | z
   · exact z
   · exfalso
     have ey:y=j:=by omega
     subst ey
     cases i with
     | zero=>exact hj (by simpa using e)
     | succ i =>
       have hlt:below t.place y<t.place.size:=by
         rcases yah (below t.place y+(i+1)) t.place.size with z | z
         · omega
         · rw [ydd z] at e;cases e
       have q1:=h2 (below t.place y) t.place[below t.place y] (yba _) (by simp)
       have q2:=h.lt (show below t.place y<below t.place y+(i+1) by omega) (show t.place[below t.place y]?=some t.place[below t.place y] by simp) e
       omega
 · have hx':x<j:=by
     obtain ⟨i,e⟩:=ydm hx
     rw [List.getElem?_take] at e
     split at e
     · rename_i hi
       rw [yda] at e
       exact h1 i x hi e
     · cases e
   rcases ybg.mp hy with rfl | hy
   · exact hx'
   · exact p3 x hx y hy
def qe9 (t:SetTable) (j:Nat):Prop:=t.place[below t.place j]?≠some j
def qeB {t:SetTable} {j:Nat} (h:∀i,t.slot j ≠ .live i):qe9 t j:=by
 intro e
 unfold SetTable.slot at h
 dsimp only at h
 rw [if_pos (by rw [e];simp)] at h
 exact h _ rfl
def qgW {t:SetTable} {h:Int}:∀(fuel:Nat) (p:Probe) (j:Nat) (d:Option Nat),(∀x,p.dummy=some x→qe9 t x)→probe.go t (fun _=>h+1) h fuel p=some (.empty j d)→qe9 t j∧∀x,d=some x→qe9 t x
 | 0,p,j,d,_,e=>by rw [probe.go] at e;cases e
 | fuel+1,p,j,d,hp,e=>by
   rw [probe.go] at e
   cases hs:t.slot p.j with
   | empty =>
     rw [hs] at e
     cases e
     exact ⟨qeB (fun i z=>by rw [hs] at z;exact (nomatch z)),hp⟩
   | dummy =>
     rw [hs] at e
     refine qgW fuel _ j d (fun x hx=>?_) e
     have:(t.advance { p with dummy:=some p.j }).dummy=some p.j:=by unfold SetTable.advance;dsimp only;split<;>rfl
     rw [this] at hx
     cases hx
     exact qeB fun i z=>by rw [hs] at z;cases z
   | live i =>
     rw [hs] at e
     dsimp only at e
     rw [if_neg (by simp;omega)] at e
     refine qgW fuel _ j d (fun x hx=>hp x ?_) e
     have:(t.advance p).dummy=p.dummy:=by unfold SetTable.advance;dsimp only;split<;>rfl
     rw [this] at hx
     exact hx
def qhO {t:SetTable} {h:Int} {j:Nat} {b:Bool} (e:t.freeSlot h=some (j,b)):qe9 t j:=by
 unfold SetTable.freeSlot at e
 split at e
 · rename_i k d hd
   cases e
   obtain ⟨q1,q2⟩:=qgW _ _ _ _ (by intro x hx;cases hx) hd
   cases d with
   | none=>exact q1
   | some x=>exact q2 x rfl
 · cases e
def qkO (n:Nat):Ris (Array.range n):=by
 unfold Ris
 rw [Array.toList_range]
 exact ybj
def qcj (t:SetTable) (n:Nat):Ris (t.standIn n).place:=qkO n
def qkt {t:SetTable} {es:Array (Int×Value)} {h:Int} {x:Value} (hr:Ris t.place):Ris (layNew t es h x).2.1.place∧(layNew t es h x).2.1.led=t.led:=by
 unfold layNew
 split
 · rename_i slot wd e
   dsimp only
   unfold SetTable.orStandIn
   split
   · exact ⟨qqS hr (qhO e),rfl⟩
   · exact ⟨qcj _ _,rfl⟩
 · exact ⟨qcj _ _,rfl⟩
def qot {mask finger moves:Nat} {led plain:Bool} {hashes:Array Int} {t:SetTable} {o:Array Nat} (e:laid mask finger moves led plain hashes=some (t,o)):Ris t.place∧t.led=led:=by
 unfold laid at e
 cases hc:layClean mask hashes with
 | none=>rw [hc] at e;cases e
 | some owner =>
   rw [hc] at e
   have e':=Option.some.inj e
   have e1:=congrArg Prod.fst e'
   dsimp only at e1
   subst e1
   refine ⟨?_,rfl⟩
   unfold Ris
   dsimp only
   have key:∀l:List Nat,l.Pairwise (· < ·)→((l.filterMap fun j=>(owner.getD j none).map (j,·)).map (·.1)).Pairwise (· < ·):=by
     intro l
     induction l with
     | nil=>intro _;exact List.Pairwise.nil
     | cons a r ih =>
       intro hp
       obtain ⟨h1,h2⟩:=ybf.mp hp
       rw [ydn]
       split
       · exact ih h2
       · rename_i b hb
         rw [ycf]
         refine ybf.mpr ⟨fun y hy=>?_,ih h2⟩
         have hb':b.1=a:=by
           cases hq:owner.getD a none with
           | none=>rw [hq] at hb;cases hb
           | some z=>rw [hq] at hb;cases hb;rfl
         rw [hb']
         obtain ⟨q,hq,rfl⟩:=ybt.mp hy
         obtain ⟨z,hz,e⟩:=ydo.mp hq
         have:q.1=z:=by
           cases hq2:owner.getD z none with
           | none=>rw [hq2] at e;cases e
           | some v=>rw [hq2] at e;cases e;rfl
         rw [this]
         exact h1 z hz
   simpa using key (List.range (mask+1)) ybj
def qh5 {t:SetTable} {es:Array (Int×Value)} {wanted:Nat}:Ris (relayAll t es wanted).2.1.place∧(relayAll t es wanted).2.1.led=t.led:=by
 unfold relayAll
 split
 · rename_i t' order e
   dsimp only
   split
   · unfold SetTable.relaid at e
     exact qot e
   · exact ⟨qcj _ _,rfl⟩
 · exact ⟨qcj _ _,rfl⟩
end STb
namespace STb
open PySem PySem.SetTable PyProof.Rows
def kI:Value→Option Int
 | .int n _=>some n
 | _=>none
def qp1 {prog:Program} {w:World} {k:Int} {v:Value}:(intKind prog w).is k v=true↔kI v=some k:=by
 constructor
 · intro h
   cases v<;>first
     | (rename_i n t;have:n=k:=by simpa [intKind,Value.isInt] using h
        rw [this];rfl)
     | (exfalso;simp [intKind,Value.isInt] at h)
 · intro h
   cases v<;>first
     | (rename_i n t;cases h;exact intKind_is _ _ _ _)
     | cases h
def RS (prog:Program) (w:World) (h:Heap) (a:Addr) (ns:List Int):Prop :=
 ∃es ep t,h.get? a=some { cls := .type "set",dict:=none,data := .set es ep t }∧ElemsOf (intKind prog w) es.toList∧(es.toList.map fun e=>kI e.2).Perm (ns.map some)∧es.size<scanBound∧t.fits es.size=true ∧
   Ris t.place∧t.led = !w.params.followText "set-order" ∧ ns.Nodup
def RS.keep {prog:Program} {w:World} {h h':Heap} {a:Addr} {ns:List Int} (r:RS prog w h a ns) (k:∀o,h.get? a=some o→h'.get? a=some o):RS prog w h' a ns:=by
 obtain ⟨es,ep,t,e,q⟩:=r
 exact ⟨es,ep,t,k _ e,q⟩
def RS.len {prog:Program} {w:World} {h:Heap} {a:Addr} {ns:List Int} (r:RS prog w h a ns):ns.length<scanBound:=by
 obtain ⟨es,ep,t,e,_,p,b,_⟩:=r
 have:=p.length_eq
 rw [ycd,ycd,ydh] at this
 omega
def qdk (ns:List Int) (n:Int):List Int:=if n∈ns then ns else ns++[n]
def qgI {ns:List Int} {n:Int} (h:ns.Nodup):(qdk ns n).Nodup:=by
 unfold qdk
 split
 · exact h
 · rename_i hn
   exact List.nodup_append.mpr ⟨h,by simp,fun a ha b hb e=>hn (by simp at hb;rw [←hb,←e];exact ha)⟩
def qho {ns:List Int} {n k:Int}:k∈qdk ns n↔k∈ns∨k=n:=by
 unfold qdk
 split
 · rename_i hn
   exact ⟨.inl,fun h=>h.elim id fun e=>e▸hn⟩
 · simp
def qmL (ns:List Int) (n:Int):(qdk ns n).length≤ns.length+1:=by
 unfold qdk
 split
 · omega
 · simp
section
variable {prog:Program} {w:World} {A:Around} {E:Value→Shared→Prop} {s:Shared} {a:Addr}
def qtl {ns:List Int} {n:Int} {tk:Tok} {Q:Bool→Shared→Prop} (r:RS prog w s.heap a ns) (room:ns.length+1<scanBound)
   (h:∀b h',Heap.SameBut a s.heap h'→RS prog w h' a (qdk ns n)→Q b { s with heap:=h' }) :
   wpAny (model prog w) A (setAddHashed a (.int n tk) ((intKind prog w).hash n)) Q E s:=by
 obtain ⟨es,ep,t,ho,el,pm,bd,ft,rs,ld,nd⟩:=r
 have hsz:es.size=ns.length:=by
   have:=pm.length_eq
   rwa [ycd,ycd,ydh] at this
 have hkey:(intKind prog w).is n (.int n tk)=true:=intKind_is _ _ _ _
 have memk:∀k:Int,k∈ns↔∃e∈es.toList,(intKind prog w).is k e.2=true:=fun k=>by
   have:k∈ns↔some k∈ns.map some:=by simp
   rw [this,←pm.mem_iff,ybt]
   exact ⟨fun ⟨e,he,q⟩=>⟨e,he,qp1.mpr q⟩,fun ⟨e,he,q⟩=>⟨e,he,qp1.mp q⟩⟩
 unfold setAddHashed setAddHashedIn
 refine wpAny_holding (wpAny_bind (wpAny_setState_of ho rfl ft ?_))
 dsimp only
 rw [byScan_of (x := .int n tk) rfl bd el]
 simp only [if_true]
 unfold setAddByScan
 refine wpAny_bind (wpAny_bind (wpAny_rule (wpAny_bind (wpAny_setScan_of hkey ho rfl ft el ?_))))
 cases hr:List.findIdx? (fun e=>(intKind prog w).is n e.2) es.toList with
 | some j =>
   dsimp only
   obtain ⟨hj,hpj,_⟩:=List.findIdx?_eq_some_iff_getElem.mp hr
   have hin:n∈ns:=(memk n).mpr ⟨_,ydp hj,hpj⟩
   refine wpAny_pure (wpAny_pure ?_)
   have q:=h false s.heap (Heap.SameBut.refl a s.heap) (by rw [show qdk ns n=ns from if_pos hin];exact ⟨es,ep,t,ho,el,pm,bd,ft,rs,ld,nd⟩)
   exact q
 | none =>
   dsimp only
   have hnot:¬n∈ns:=fun z=>by
     obtain ⟨e,he,q⟩:=(memk n).mp z
     have:=List.findIdx?_eq_none_iff.mp hr e he
     rw [q] at this
     cases this
   have pN:=layNew_perm t es ((intKind prog w).hash n) (.int n tk)
   have fN:=layNew_fits t es ((intKind prog w).hash n) (.int n tk)
   have rN:=qkt (es:=es) (h:=(intKind prog w).hash n) (x := .int n tk) rs
   generalize layNew t es ((intKind prog w).hash n) (.int n tk)=L at pN fN rN ⊢
   obtain ⟨e1,t1,wd,gv⟩:=L
   dsimp only at pN fN rN ⊢
   rw [ydj] at pN
   have el1:ElemsOf (intKind prog w) e1.toList:=(el.push hkey rfl).perm pN
   have pm1:(e1.toList.map fun e=>kI e.2).Perm ((qdk ns n).map some):=by
     rw [show qdk ns n=ns++[n] from if_neg hnot,ycu]
     refine (pN.map fun e=>kI e.2).trans ?_
     rw [ycu]
     exact pm.append (List.Perm.refl _)
   have sz1:e1.size=es.size+1:=by
     rw [←ydh,pN.length_eq,ydq,ydh]
     rfl
   have bd1:e1.size<scanBound:=by omega
   have nd1:=qgI (n:=n) nd
   have gw:∀(b:Bool) (s₁:Shared) (Q':Unit→Shared→Prop),Q' () s₁→wpAny (model prog w) A (match b with | true=>rule "set.scan.the-table-gave-way" | false=>pure ()) Q' E s₁:=fun b s₁ Q' q=>by
     cases b
     · exact wpAny_pure q
     · exact wpAny_rule q
   refine wpAny_bind (gw gv _ _ ?_)
   have tail:∀t2:SetTable,t2.fits e1.size=true→Ris t2.place→t2.led=t.led→wpAny (model prog w) A (do
       storeSet a e1 t2
       if (!wd&&t2.tooFull)=true then do
           (match (relayAll t2 e1 (SetTable.grown e1.size)).2.2 with | true=>rule "set.scan.the-table-gave-way" | false=>pure ())
           storeSet a (relayAll t2 e1 (SetTable.grown e1.size)).1 (relayAll t2 e1 (SetTable.grown e1.size)).2.1
           pure (some true)
         else pure (some true)) (fun r s'=>∃b,r=some b∧Q b s') E s:=fun t2 f2 r2 l2=>by
     refine wpAny_bind (wpAny_storeSet_of ho rfl ?_ (fits_of_scanBound bd1))
     have g1:(s.heap.update a (Obj.putSet e1 t2)).get? a=some { cls := .type "set",dict:=none,data := .set e1 (ep+1) t2 }:=ydr (Obj.putSet e1 t2) ho rfl
     have sb1:=Heap.SameBut.update s.heap a (Obj.putSet e1 t2)
     split
     · have pR:=relayAll_perm t2 e1 (SetTable.grown e1.size)
       have fR:=relayAll_fits t2 e1 (SetTable.grown e1.size)
       have rR:=qh5 (t:=t2) (es:=e1) (wanted:=SetTable.grown e1.size)
       generalize relayAll t2 e1 (SetTable.grown e1.size)=L2 at pR fR rR ⊢
       obtain ⟨e3,t3,g3⟩:=L2
       dsimp only at pR fR rR ⊢
       have sz3:e3.size=e1.size:=by rw [←ydh,pR.length_eq,ydh]
       refine wpAny_bind (gw g3 _ _ (wpAny_bind (wpAny_storeSet_of g1 rfl ?_ (fits_of_scanBound (by omega)))))
       exact wpAny_pure ⟨true,rfl,h true _ (sb1.trans (Heap.SameBut.update _ a _)) ⟨e3,_,t3,ydr (Obj.putSet e3 t3) g1 rfl,el1.perm pR,(pR.map _).trans pm1,by omega,fR,rR.1,by rw [rR.2,l2];exact ld,nd1⟩⟩
     · exact wpAny_pure ⟨true,rfl,h true _ sb1 ⟨e1,_,t2,g1,el1,pm1,bd1,f2,r2,by rw [l2];exact ld,nd1⟩⟩
   have fin:∀(r:Option Bool) (s':Shared),(∃b,r=some b∧Q b s')→wpAny (model prog w) A (match r with | some added=>pure added | none=>setAddHashedIn a (.int n tk) ((intKind prog w).hash n) 99999) Q E s':=fun r s' ⟨b,e,q⟩=>by
     subst e
     exact wpAny_pure q
   split
   · refine wpAny_bind ?_
     rw [hashByValue_scannable 8 (x := .int n tk) rfl]
     refine wpAny_pure ?_
     refine wpAny_mono (tail t1 fN rN.1 rN.2) (fun r s' q=>?_) fun _ _ z=>z
     exact fin r s' q
   · refine wpAny_bind (wpAny_pure ?_)
     refine wpAny_mono (tail t1 fN rN.1 rN.2) (fun r s' q=>?_) fun _ _ z=>z
     exact fin r s' q
end
end STb
namespace STb
open PySem PySem.SetTable PyProof.Rows
def qb4 (val:Nat→Int) (i:Nat):List Int:=((List.range i).map val).foldl qdk []
def qc1 (val:Nat→Int) (i:Nat):qb4 val (i+1)=qdk (qb4 val i) (val i):=by
 unfold qb4
 rw [yds,ycu,yas]
 rfl
def qfc (val:Nat→Int):∀i,(qb4 val i).length≤i
 | 0=>ybz _
 | i+1=>by
   rw [qc1]
   have h1:=qmL (qb4 val i) (val i)
   have h2:=qfc val i
   omega
def qhF (val:Nat→Int) (k:Int):∀i,k∈qb4 val i↔∃j,j<i∧val j=k
 | 0=>by simp [qb4]
 | i+1=>by
   rw [qc1,qho,qhF val k i]
   constructor
   · rintro (⟨j,hj,e⟩ | e)
     · exact ⟨j,by omega,e⟩
     · exact ⟨i,by omega,e.symm⟩
   · rintro ⟨j,hj,e⟩
     by_cases z:j=i
     · exact .inr (by rw [←e,z])
     · exact .inl ⟨j,by omega,e⟩
section
variable {prog:Program} {w:World} {A:Around} {R:Result→Shared→Prop} {I:Addr} {fp wr:List Addr} {G:Array GenState→Array GenState→Prop} {n:Nat} {P:Nat→Value→Prop} {St:Nat→Shared→Prop}
def qlN (W:WalksS prog w A.in1 I fp wr G n P St) (S:Addr) (out:S∉fp) (val:Nat→Int) (hv:∀i v,P i v→∃t,v = .int (val i) t) (room:∀i,i≤n→(qb4 val i).length+1<scanBound) :
   ∀(k i:Nat) (s:Shared),n-i=k→i≤n→St i s→RS prog w s.heap S (qb4 val i) →
     (∀s',Moved (S::wr) G s s'→RS prog w s'.heap S (qb4 val n)→R (.ok (.ret .none)) s')→codeAny (model prog w) A (.builtin "set.update.loop" ⟨[.ref S,.ref I],[]⟩) R s:=by
 have nw:S∉wr:=fun z=>out (W.sub _ z)
 have sub:∀b∈wr,b∈S::wr:=fun b z=>ybh _ z
 intro k
 induction k with
 | zero =>
   intro i s hk hi st r fin
   have:i=n:=by omega
   subst this
   refine codeAny_builtin F.entry_set_update_loop ?_
   rw [Around.under_plainId F.plain_set_update_loop _]
   refine wpAny_bind (m:=pyNext (.ref I)) (W.done s _ _ st fun s' mv=>?_)
   exact wpAny_pure (fin s' (mv.mono sub) (r.keep fun o e=>mv.heap S o nw e))
 | succ k ih =>
   intro i s hk hi st r fin
   have hlt:i<n:=by omega
   refine codeAny_builtin F.entry_set_update_loop ?_
   rw [Around.under_plainId F.plain_set_update_loop _]
   refine wpAny_bind (m:=pyNext (.ref I)) (W.item i s _ _ hlt st fun v s' pv st' mv=>?_)
   obtain ⟨t,rfl⟩:=hv i v pv
   have r':=r.keep (h':=s'.heap) fun o e=>mv.heap S o nw e
   show wpAny _ A.in1 (holding [Value.int (val i) t] (setAdd S (.int (val i) t)) >>= _) _ _ s'
   refine wpAny_bind (wpAny_holding ?_)
   unfold setAdd
   refine wpAny_holding (wpAny_bind ((intKind prog w).pyHash (k:=val i) (intKind_is _ _ _ _) ?_))
   refine qtl (s:={ s' with toks:=s'.toks+1 }) r' (room i hi) fun b h' sb r2=>?_
   refine wpAny_pure ⟨plainId_quiet F.plain_set_update_loop _,ih (i+1) _ (by omega) hlt (W.frame _ s' _ _ st' (ycw _) fun b hb o e=>?_) (by rw [qc1];exact r2) fun s2 mv2 r3=>?_⟩
   · rw [sb.2 b fun z=>out (z▸hb)];exact e
   · refine fin s2 (Moved.trans W.gtrans ((mv.mono sub).then_heap (ycw _) fun b o hb e=>?_) mv2) r3
     rw [sb.2 b fun z=>hb (z▸ybe)];exact e
end
section
variable {prog:Program} {w:World} {A:Around} {E:Value→Shared→Prop} {s:Shared}
abbrev qc8 (b:Bool):Obj:={ cls := .type "set",dict:=none,data := .set #[] 0 (.fresh 0 0 b) }
def qnZ {h:Heap} {a:Addr} (e:h.get? a=some (qc8 (!w.params.followText "set-order"))):RS prog w h a [] :=
 ⟨#[],0,_,e,fun _ z=>by simp at z,List.Perm.refl _,by show 0<4096;decide,rfl,List.Pairwise.nil,rfl,List.nodup_nil⟩
def qqN (v:Value) {Q₁:Value→Shared→Prop} (h:Q₁ (.ref s.heap.objs.size) { s with heap:=s.heap.push (qc8 (!w.params.followText "set-order")) }) :
   codeAny (model prog w) A (.call (.builtin "set.__new__") ⟨[.type "set",v],[]⟩) (wants Q₁ E) s:=by
 refine codeAny_of_tree ?_
 refine wpAny_bind (m:=checkBuiltinCall "set.__new__" ⟨[.type "set",v],[]⟩) (wpAny_of_eq (F.newCall_set_1 v) (wpAny_pure ⟨plainId_quiet F.plain_set_new _,codeAny_builtin F.entry_set_new ?_⟩))
 rw [Around.under_plainId F.plain_set_new _]
 unfold Builtin.«set.__new__» Builtin.Frozenset.newClass
 have sub0:=sub_set_self
 obtain ⟨hp,g,d,tk,os⟩:=s
 dsimp only
 wp_walk
 refine wpAny_askSetting (wpAny_pure ?_)
 dsimp only
 simp only [newObj]
 exact wpAny_bind (wpAny_alloc (wpAny_pure (wpAny_pure h)))
set_option maxHeartbeats 3200000 in
def qlp {l:Addr} {its:Array Value} {ns:List Int} {Q:Value→Shared→Prop} (hh:A.handled=none) (hl:s.heap.IsList l its) (hi:IntsAre its.toList ns) (room:∀i,i≤its.size→(qb4 (fun i=>ns.getD i 0) i).length+1<scanBound)
   (h:∀(h':Heap) (tk:Nat),RS prog w h' s.heap.objs.size (qb4 (fun i=>ns.getD i 0) its.size)→(∀b o,b<s.heap.objs.size→s.heap.get? b=some o→h'.get? b=some o)→Q (.ref s.heap.objs.size) { s with heap:=h',toks:=tk }) :
   wpAny (model prog w) A (call (.type "set") [.ref l]) Q E s:=by
 obtain ⟨c,tl,mro⟩:=F.called_set.mro
 have made:=F.called_set.made
 have sub1:=F.called_set.sub
 refine wpAny_call (codeAny_of_tree (wpAny_pure ⟨Code.quiet_builtin _ (by decide +kernel),codeAny_builtin F.entry_type_call ?_⟩))
 rw [Around.under_plain (weight_type_call_type "set" [.ref l] []) rfl]
 have nt:=F.called_set.notType
 have cc:=F.called_set.canCreate
 have tc:=F.typeCall_set_1 (.ref l)
 repeat (any_goals (first | assumption | wp_step))
 refine codeAny_mono (qqN (.ref l) (E:=E) (Q₁:=fun obj s₁=>obj = .ref s.heap.objs.size∧s₁={ s with heap:=s.heap.push (qc8 (!w.params.followText "set-order")) }) ⟨rfl,rfl⟩) fun r s₁ hr=>?_
 cases r with
 | error e=>exact hr
 | ok fl =>
   cases fl with
   | ret obj =>
     obtain ⟨rfl,rfl⟩:=hr
     have g0:(s.heap.push (qc8 (!w.params.followText "set-order"))).get? s.heap.objs.size=some (qc8 (!w.params.followText "set-order")):=ydt _ rfl
     have ty:Shared.TypeIs { s with heap:=s.heap.push (qc8 (!w.params.followText "set-order")) } (.ref s.heap.objs.size) "set" := ⟨_,g0,rfl⟩
     have li:=F.called_set.init.lookup
     have bi:=F.called_set.init.bind (.ref s.heap.objs.size)
     repeat (any_goals (first | assumption | wp_step))
     refine codeAny_mono (codeAny_call_builtin (R:=wants (fun r s₂=>r = .none∧∃h' tk,s₂={ s with heap:=h',toks:=tk }∧RS prog w h' s.heap.objs.size (qb4 (fun i=>ns.getD i 0) its.size) ∧
         (∀b o,b<s.heap.objs.size→s.heap.get? b=some o→h'.get? b=some o)) E) F.called_set.init.plain F.entry_set_init (check_set_init_1 ty ?_)) fun r₂ s₂ hr₂=>?_
     · obtain ⟨⟨oc,od,ot,osl⟩,e0,ec,nl,ed⟩:=hl
       simp only at ec ed
       subst ec ed
       have e1:(s.heap.push (qc8 (!w.params.followText "set-order"))).get? l=some ⟨.type "list",od,.seq its nl,osl⟩:=ydu _ e0
       have q1:=F.sub_list_set
       have q2:=F.sub_list_frozenset
       have q3:(Value.type "list" == Value.type "dict")=false:=by decide
       have il:(s.heap.push (qc8 (!w.params.followText "set-order"))).IsList l its:=⟨_,e1,rfl,nl,rfl⟩
       unfold Builtin.«set.__init__» noKeywords Builtin.Frozenset.updateFrom
       generalize pI:pyIter=PIt
       wp_walk
       subst pI
       refine wpAny_pyIter_list il (wpAny_bind (wpAny_runValue ?_))
       have hlt:l<s.heap.objs.size:=ydv e0
       have hh3:A.in1.in1.in1.handled=none:=by simp [hh]
       have ne1:l≠(s.heap.push (qc8 (!w.params.followText "set-order"))).objs.size:=by
         rw [ydw]
         exact ydx (ydy hlt)
       have ne2:s.heap.objs.size∉[(s.heap.push (qc8 (!w.params.followText "set-order"))).objs.size,l]:=by
         rw [ydw]
         simp only [ybg,ydz,or_false,not_or]
         exact And.intro (ydx (ycx _)) (yea hlt)
       refine qlN ((Walks.list hh3 _ l ne1 its).toS) s.heap.objs.size ne2 (fun i=>ns.getD i 0) (fun i v e=>IntsAre.int_at hi i v (by rw [yda];exact e)) room (its.size-0) 0 _ (by omega) (ybz _)
         ⟨⟨_,ydt _ rfl,rfl,rfl⟩,il.push _⟩ (qnZ (ydu _ g0)) ?_
       intro s' mv r'
       obtain ⟨h',g',d',tk',os'⟩:=s'
       have eg:g'=s.gens:=mv.gens
       have ed:d'=s.drawn:=mv.drawn
       have eo:os'=s.os:=mv.os
       subst eg ed eo
       refine wpAny_pure (wpAny_pure ⟨rfl,h',tk',rfl,r',fun b o hb e=>?_⟩)
       refine mv.heap b o ?_ (ydu _ (ydu _ e))
       rw [ydw]
       simp only [ybg,ydz,or_false,not_or]
       exact And.intro (ydx hb) (ydx (ydy hb))
     · cases r₂ with
       | error e=>exact hr₂
       | ok fl₂ =>
         cases fl₂ with
         | ret r =>
           obtain ⟨rfl,h',tk,rfl,r',kp⟩:=hr₂
           repeat (any_goals (first | assumption | wp_step))
           exact h _ _ r' kp
         | _=>exact hr₂.elim
   | _=>exact hr.elim
end
end STb
namespace STb
open PySem PySem.SetTable PyProof.Rows
def qbm:Slot "set_iterator" "__next__" "set_iterator.__next__" :=
 Slot.of (owner := "set_iterator") (n := "__next__") (by (rw [typeLookup_type,builtinLookup_eq_fast]);kernel_rfl) (by decide +kernel) (by decide +kernel) (by decide +kernel) (by first | (exact Or.inl (by decide +kernel)) | (exact Or.inr (by decide +kernel))) (by (rw [isSubtype_type]);kernel_rfl)
def qeZ:entryFor table "set_iterator.__next__" = some Builtin.«set_iterator.__next__»:=entryFor_of_tree (by kernel_rfl)
def qgu (a:Value):argsOk "set_iterator.__next__" ⟨[a],[]⟩:=by unfold argsOk;kernel_rfl
def qkq:entryFor table "set.__iter__" = some Builtin.«frozenset.__iter__»:=entryFor_alias (id' := "frozenset.__iter__") (by kernel_rfl) (by decide +kernel) (by decide +kernel) (by kernel_rfl)
def qef {α:Type}:∀(l:List α) (i:Nat) (h:i<l.length),(l[i]::l.eraseIdx i).Perm l
 | [],i,h=>by cases h
 | x::r,0,h=>List.Perm.refl _
 | x::r,i+1,h=>(List.Perm.swap _ _ _).trans (List.Perm.cons _ (qef r i (yeb h)))
def qhx:typeLookup (.type "set") "__len__" = pure (some (.builtin "set.__len__")):=by (rw [typeLookup_type,builtinLookup_eq_fast]);kernel_rfl
def qir:isSubtype (.type "set") (.type "set")=pure true:=by (rw [isSubtype_type]);kernel_rfl
def qm8 {α:Type} (nx:Nat→Nat):∀(fuel k:Nat) (left:List α) (out:Array α),left.length=fuel→(pickOrder.go nx fuel k left out).toList.Perm (out.toList++left)
 | 0,k,left,out,h=>by
   rw [pickOrder.go]
   rw [yec.mp h,yed]
 | fuel+1,k,left,out,h=>by
   rw [pickOrder.go]
   have hlt:nx k%left.length<left.length:=yee _ (by omega)
   rw [ycj hlt]
   dsimp only
   refine (qm8 nx fuel (k+1) _ _ (by rw [yef hlt];omega)).trans ?_
   rw [ydj,ydk]
   refine List.Perm.append_left _ ?_
   exact qef left _ hlt
def qe6 {α:Type} (nx:Nat→Nat) (xs:Array α):(pickOrder nx xs).toList.Perm xs.toList:=by
 have:=qm8 nx xs.size 0 xs.toList #[] (by simp)
 simpa [pickOrder] using this
section
variable {prog:Program} {w:World} {A:Around} {E:Value→Shared→Prop} {s:Shared}
def qmr {src:Source} {n:Nat} {Q:Nat→Shared→Prop} (hn:n≠0) (h:∀i d,i<n→Q i { s with drawn:=d }):wpAny (model prog w) A (choose src n) Q E s :=
 fun Γ p _=>⟨hn,h _ _ (yee _ (Nat.pos_of_ne_zero hn))⟩
def qlB:∀(n:Nat) (xs:List Nat) (s:Shared) (Q:List Nat→Shared→Prop),xs.length=n→(∀ys d,ys.Perm xs→Q ys { s with drawn:=d })→wpAny (model prog w) A (drawOrder n xs) Q E s
 | 0,xs,s,Q,h,q=>by
   rw [yec.mp h] at q ⊢
   exact wpAny_pure (q [] s.drawn (List.Perm.refl _))
 | n+1,[],s,Q,h,q=>by cases h
 | n+1,x::r,s,Q,h,q=>by
   refine wpAny_bind (m:=choose .order (x::r).length) (qmr (by simp) fun i d hi=>?_)
   rw [ycj hi]
   dsimp only
   refine wpAny_bind (qlB n ((x::r).eraseIdx i) _ _ (by rw [yef hi];simp at h ⊢;exact h) fun ys d' hp=>?_)
   exact wpAny_pure (q _ d' ((List.Perm.cons _ hp).trans (qef _ _ hi)))
def qd2 {Q:Bool→Shared→Prop} (h:Q (w.params.followText "set-order") s):wpAny (model prog w) A setsByText Q E s:=by
 unfold setsByText
 exact wpAny_bind (wpAny_askSetting (wpAny_pure h))
end
end STb
namespace STb
open PySem PySem.SetTable PyProof.Rows
abbrev qiG (first:Value) (i:Nat) (S:Addr) (n ep:Nat):Obj:={ cls := .type "set_iterator",data := .fields #[first,.int i 0,.ref S,.int n 0,.int ep 0] }
abbrev qeS (es:Array (Int×Value)) (ep:Nat) (t:SetTable):Obj:={ cls := .type "set",dict:=none,data := .set es ep t }
section
variable {prog:Program} {w:World} {A:Around} {E:Value→Shared→Prop} {s:Shared} {I S:Addr} {es:Array (Int×Value)} {ep:Nat} {t:SetTable}
def qcd {Q:Array (Int×Value)→Shared→Prop} (ho:s.heap.get? S=some (qeS es ep t)) (hf:t.fits es.size=true) (h:Q es s):wpAny (model prog w) A (setEntries S) Q E s:=by
 unfold setEntries
 exact wpAny_bind (wpAny_setState_of ho rfl hf (wpAny_pure h))
end
end STb
namespace STb
open PySem PySem.SetTable PyProof.Rows
section
variable {prog:Program} {w:World} {A:Around} {E:Value→Shared→Prop} {s:Shared} {I S:Addr} {es:Array (Int×Value)} {ep:Nat} {t:SetTable}
def qne {α:Type} {Q:α→Shared→Prop} {E':Value→Shared→Prop} (hh:A.handled=none)
   (h:∀h' e,(∀b o,s.heap.get? b=some o→h'.get? b=some o)→Shared.TypeIs { s with heap:=h' } (.ref e) "StopIteration" → E' (.ref e) { s with heap:=h' }) :
   wpAny (model prog w) A (do raiseNew (←newExc (.type "StopIteration") []):Sem α) Q E' s:=by
 refine wpAny_bind ?_
 simp only [newExc,newTuple]
 refine wpAny_bind (wpAny_newObj_type ?_ (by size_fits))
 refine wpAny_bind (m:=firstArgMember _ _) (wpAny_of_eq (a:=Value.none) (by first | rfl | (simp only [firstArgMember];rfl)) ?_)
 refine wpAny_newObj_type ?_ (by size_fits)
 simp only [raiseNew]
 refine wpAny_bind (wpAny_handled ?_)
 rw [hh]
 refine wpAny_bind (wpAny_pure (wpAny_throw ?_))
 exact h _ _ (fun b o e=>ydu _ (ydu _ e)) ⟨_,ydt _ rfl,rfl⟩
def qhw {slot:Nat} {i:Nat} {Q:Option Value→Shared→Prop} (hh:A.handled=none) (hI:s.heap.get? I=some (qiG (.int slot 0) i S es.size ep)) (hS:s.heap.get? S=some (qeS es ep t)) (hf:t.fits es.size=true)
   (hn:∀(A':Around) (E':Value→Shared→Prop) (Q':Option (Value×Nat)→Shared→Prop),Q' none s→wpAny (model prog w) A' (setNext S slot i ep) Q' E' s)
   (h:∀h',(∀b o,b≠I→s.heap.get? b=some o→h'.get? b=some o)→Q none { s with heap:=h' }):wpAny (model prog w) A (pyNext (.ref I)) Q E s:=by
 have ty:s.TypeIs (.ref I) "set_iterator" := ⟨_,hI,rfl⟩
 unfold pyNext
 refine wpAny_bind (wpAny_attempt (wpAny_callSpecial?_slot (name:=Str.ofString "__next__") ty qbm (wpAny_call_entry qbm ty qeZ ?_ (qgu _))))
 unfold Builtin.«set_iterator.__next__»
 refine wpAny_bind (m:=slotArgs "__next__" 0 ⟨[.ref I],[]⟩) (wpAny_pure (wpAny_bind (wpAny_fieldsOf hI rfl ?_)))
 refine wpAny_bind (m:=setEntries S) (qcd hS hf ?_)
 rw [if_neg (by simp)]
 refine wpAny_bind (m:=setNext S (slot:Int).toNat (i:Int).toNat (ep:Int).toNat) (hn _ _ _ ?_)
 refine wpAny_bind (wpAny_setField hI rfl (by simp) ?_)
 refine qne (by first | exact hh | simp [hh]) fun h' e kp tye=>?_
 refine wpAny_bind (wpAny_isInstance (T := "StopIteration") (b:=true) tye isSubtype_stop ?_)
 exact wpAny_pure (h _ fun b o hb q=>kp b o ((yeg _ _ (Ne.symm hb)).trans q))
def qoF {T:Addr} {qbM:Array Value} {pn:Nat} {i p:Nat} {tk:Tok} {Q:Option Value→Shared→Prop} (hI:s.heap.get? I=some (qiG (.ref T) i S es.size ep)) (hT:s.heap.get? T=some { cls := .type "tuple",data := .seq qbM pn })
   (hS:s.heap.get? S=some (qeS es ep t)) (hf:t.fits es.size=true) (hp:qbM[i]?=some (.int p tk)) {x:Int×Value} (hx:es[p]?=some x)
   (h:∀h',h'.get? I=some (qiG (.ref T) (i+1) S es.size ep)→Heap.SameBut I s.heap h'→Q (some x.2) { s with heap:=h' }):wpAny (model prog w) A (pyNext (.ref I)) Q E s:=by
 have ty:s.TypeIs (.ref I) "set_iterator" := ⟨_,hI,rfl⟩
 unfold pyNext
 refine wpAny_bind (wpAny_attempt (wpAny_callSpecial?_slot (name:=Str.ofString "__next__") ty qbm (wpAny_call_entry qbm ty qeZ ?_ (qgu _))))
 unfold Builtin.«set_iterator.__next__»
 refine wpAny_bind (m:=slotArgs "__next__" 0 ⟨[.ref I],[]⟩) (wpAny_pure (wpAny_bind (wpAny_fieldsOf hI rfl ?_)))
 refine wpAny_bind (m:=setEntries S) (qcd hS hf ?_)
 rw [if_neg (by simp)]
 refine wpAny_bind (m:=seqItems? (.ref T)) (wpAny_seqItems hT rfl ?_)
 dsimp only
 rw [show qbM[(i:Int).toNat]?=some (.int p tk) from hp]
 dsimp only
 refine wpAny_bind (m:=setNextDrawn S (p:Int).toNat (ep:Int).toNat) ?_
 unfold setNextDrawn
 refine wpAny_bind (wpAny_setState_of hS rfl hf ?_)
 dsimp only
 rw [if_neg (by simp),show es[(p:Int).toNat]?=some x from hx]
 refine wpAny_pure (wpAny_bind (wpAny_setField hI rfl (by simp) ?_))
 have g1:=ydr (Obj.mapFields (·.setIfInBounds 1 (rawInt ((i:Int)+1)))) hI rfl
 exact wpAny_pure ⟨_,rfl,wpAny_pure (h _ g1 (Heap.SameBut.update ..))⟩
def qhC {T:Addr} {qbM:Array Value} {pn:Nat} {i:Nat} {Q:Option Value→Shared→Prop} (hh:A.handled=none) (hI:s.heap.get? I=some (qiG (.ref T) i S es.size ep)) (hT:s.heap.get? T=some { cls := .type "tuple",data := .seq qbM pn })
   (hS:s.heap.get? S=some (qeS es ep t)) (hf:t.fits es.size=true) (hp:qbM[i]?=none)
   (h:∀h',(∀b o,b≠I→s.heap.get? b=some o→h'.get? b=some o)→Q none { s with heap:=h' }):wpAny (model prog w) A (pyNext (.ref I)) Q E s:=by
 have ty:s.TypeIs (.ref I) "set_iterator" := ⟨_,hI,rfl⟩
 unfold pyNext
 refine wpAny_bind (wpAny_attempt (wpAny_callSpecial?_slot (name:=Str.ofString "__next__") ty qbm (wpAny_call_entry qbm ty qeZ ?_ (qgu _))))
 unfold Builtin.«set_iterator.__next__»
 refine wpAny_bind (m:=slotArgs "__next__" 0 ⟨[.ref I],[]⟩) (wpAny_pure (wpAny_bind (wpAny_fieldsOf hI rfl ?_)))
 refine wpAny_bind (m:=setEntries S) (qcd hS hf ?_)
 rw [if_neg (by simp)]
 refine wpAny_bind (m:=seqItems? (.ref T)) (wpAny_seqItems hT rfl ?_)
 dsimp only
 rw [show qbM[(i:Int).toNat]?=none from hp]
 dsimp only
 refine wpAny_bind (wpAny_setField hI rfl (by simp) ?_)
 have g1:=ydr (Obj.mapFields (·.setIfInBounds 0 (rawInt 0))) hI rfl
 refine wpAny_bind (wpAny_setField g1 rfl (by simp [Obj.mapFields]) ?_)
 refine qne (by first | exact hh | simp [hh]) fun h' e kp tye=>?_
 refine wpAny_bind (wpAny_isInstance (T := "StopIteration") (b:=true) tye isSubtype_stop ?_)
 exact wpAny_pure (h _ fun b o hb q=>kp b o ((yeg _ _ (Ne.symm hb)).trans ((yeg _ _ (Ne.symm hb)).trans q)))
def qeI {slot i:Nat} {Q:Option (Value×Nat)→Shared→Prop} (hS:s.heap.get? S=some (qeS es ep t)) (hf:t.fits es.size=true) (bt:w.params.followText "set-order" = true)
   (h:Q (((pickOrder (w.params.setOrder S ep) es)[i]?).map fun e=>(e.2,slot)) s):wpAny (model prog w) A (setNext S slot i ep) Q E s:=by
 unfold setNext
 refine wpAny_bind (wpAny_setState_of hS rfl hf (wpAny_bind (qd2 ?_)))
 rw [bt,if_pos rfl,if_neg (by simp)]
 refine wpAny_bind ?_
 unfold setWalk
 refine wpAny_bind (wpAny_setState_of hS rfl hf (wpAny_bind (qd2 ?_)))
 rw [bt,if_pos rfl]
 exact wpAny_bind (wpAny_askSetting (wpAny_pure (wpAny_pure h)))
def qdD {slot i:Nat} {Q:Option (Value×Nat)→Shared→Prop} (hS:s.heap.get? S=some (qeS es ep t)) (hf:t.fits es.size=true) (bt:w.params.followText "set-order" = false) (ld:t.led=true) (dr:(!t.plain&&decide (es.size>1))=false)
   (h:Q (match es[SetTable.below t.place slot]?,t.place[SetTable.below t.place slot]? with | some (_,x),some j=>some (x,j+1) | _,_=>none) s):wpAny (model prog w) A (setNext S slot i ep) Q E s:=by
 unfold setNext
 refine wpAny_bind (wpAny_setState_of hS rfl hf (wpAny_bind (qd2 ?_)))
 rw [bt,if_neg (by simp)]
 dsimp only
 split
 · rename_i z
   exfalso
   have z':(!t.plain&&decide (es.size>1))=true:=z
   rw [dr] at z'
   cases z'
 · show wpAny (model prog w) A ((if (!t.led&&!es.isEmpty)=true then unsupported "set:maker-not-led" else pure ()) >>= fun _=>pure _) Q E s
   rw [ld,if_neg (by simp)]
   exact wpAny_bind (wpAny_pure (wpAny_pure h))
end
end STb
namespace STb
open PySem PySem.SetTable PyProof.Rows
section
variable {prog:Program} {w:World} {A:Around} {E:Value→Shared→Prop} {s:Shared} {I S:Addr} {es:Array (Int×Value)} {ep:Nat} {t:SetTable}
def qok {wr:List Addr} {h':Heap} (k:∀b o,b∉wr→s.heap.get? b=some o→h'.get? b=some o):Moved wr Eq s { s with heap:=h' }:=⟨k,rfl,rfl,rfl,yba _⟩
def qla {first:Value} {i n:Nat} {Q:Value→Shared→Prop} (hI:s.heap.get? I=some (qiG first i S n ep)) (h:Q (.ref I) s):wpAny (model prog w) A (pyIter (.ref I)) Q E s:=by
 have ty:s.TypeIs (.ref I) "set_iterator" := ⟨_,hI,rfl⟩
 have sl:Slot "set_iterator" "__iter__" "set_iterator.__iter__" :=
   Slot.of (owner := "set_iterator") (n := "__iter__") (by (rw [typeLookup_type,builtinLookup_eq_fast]);kernel_rfl) (by decide +kernel) (by decide +kernel) (by decide +kernel) (by first | (exact Or.inl (by decide +kernel)) | (exact Or.inr (by decide +kernel))) (by (rw [isSubtype_type]);kernel_rfl)
 have en:entryFor table "set_iterator.__iter__" = some Builtin.«dict_keyiterator.__iter__»:=entryFor_alias (id' := "dict_keyiterator.__iter__") (by kernel_rfl) (by decide +kernel) (by decide +kernel) (by kernel_rfl)
 refine wpAny_pyIter_slot ty sl (wpAny_call_entry sl ty en ?_ (by unfold argsOk;kernel_rfl))
 unfold Builtin.«dict_keyiterator.__iter__»
 first
   | exact wpAny_bind (wpAny_pure (wpAny_pure ⟨_,rfl, "set_iterator",_,ty,qbm.lookup,h⟩))
   | exact wpAny_pure ⟨_,rfl, "set_iterator",_,ty,qbm.lookup,h⟩
def qj3 (hh:A.handled=none) (hIS:I≠S) (hf:t.fits es.size=true) (out:List Value) (ho:out.length=es.size) (ok:Nat→Nat→Prop)
   (hn:∀(s:Shared) (A':Around) (E':Value→Shared→Prop) (Q':Option (Value×Nat)→Shared→Prop) (i slot:Nat) (x:Value),s.heap.get? S=some (qeS es ep t)→ok i slot→out[i]?=some x →
     ∃nx,ok (i+1) nx∧(Q' (some (x,nx)) s→wpAny (model prog w) A' (setNext S slot i ep) Q' E' s))
   (he:∀(s:Shared) (A':Around) (E':Value→Shared→Prop) (Q':Option (Value×Nat)→Shared→Prop) (slot:Nat),s.heap.get? S=some (qeS es ep t)→ok es.size slot→Q' none s→wpAny (model prog w) A' (setNext S slot es.size ep) Q' E' s) :
   WalksS prog w A I [I,S] [I] Eq es.size (fun i v=>out[i]?=some v) (fun i s=>(∃slot:Nat,s.heap.get? I=some (qiG (.int (slot:Int) 0) i S es.size ep)∧ok i slot)∧s.heap.get? S=some (qeS es ep t)) where
 sub:=fun b hb=>by simp at hb;simp [hb]
 grefl:=fun _=>rfl
 gtrans:=fun _ _ _ h1 h2=>h1.trans h2
 frame:=fun i s h' tk st _ k=>by
   obtain ⟨⟨slot,e,o⟩,e2⟩:=st
   exact ⟨⟨slot,k I (by simp) _ e,o⟩,k S (by simp) _ e2⟩
 item:=fun i s Q E hi st q=>by
   obtain ⟨⟨slot,e,o⟩,e2⟩:=st
   have hx:out[i]?=some out[i]:=ycj (by omega)
   obtain ⟨nx,o',_⟩:=hn s A E (fun _ _=>True) i slot _ e2 o hx
   have hn':∀(A':Around) (E':Value→Shared→Prop) (Q':Option (Value×Nat)→Shared→Prop),∃nx,ok (i+1) nx∧(Q' (some (out[i],nx)) s→wpAny (model prog w) A' (setNext S slot i ep) Q' E' s):=fun A' E' Q'=>hn s A' E' Q' i slot _ e2 o hx
   unfold pyNext
   have ty:s.TypeIs (.ref I) "set_iterator" := ⟨_,e,rfl⟩
   refine wpAny_bind (wpAny_attempt (wpAny_callSpecial?_slot (name:=Str.ofString "__next__") ty qbm (wpAny_call_entry qbm ty qeZ ?_ (qgu _))))
   unfold Builtin.«set_iterator.__next__»
   refine wpAny_bind (m:=slotArgs "__next__" 0 ⟨[.ref I],[]⟩) (wpAny_pure (wpAny_bind (wpAny_fieldsOf e rfl ?_)))
   refine wpAny_bind (m:=setEntries S) (qcd e2 hf ?_)
   rw [if_neg (by simp)]
   refine wpAny_bind (m:=setNext S (slot:Int).toNat (i:Int).toNat (ep:Int).toNat) ?_
   obtain ⟨nx,o',go⟩:=hn' _ _ _
   refine go ?_
   refine wpAny_bind (wpAny_setField e rfl (by simp) ?_)
   have g1:=ydr (Obj.mapFields (·.setIfInBounds 0 (rawInt nx))) e rfl
   refine wpAny_bind (wpAny_setField g1 rfl (by simp [Obj.mapFields]) ?_)
   have g2:=ydr (Obj.mapFields (·.setIfInBounds 1 (rawInt ((i:Int)+1)))) g1 rfl
   have kp:∀b o,b≠I→s.heap.get? b=some o→((s.heap.update I (Obj.mapFields (·.setIfInBounds 0 (rawInt nx)))).update I (Obj.mapFields (·.setIfInBounds 1 (rawInt ((i:Int)+1))))).get? b=some o:=fun b o hb z =>
     (yeg _ _ (Ne.symm hb)).trans ((yeg _ _ (Ne.symm hb)).trans z)
   exact wpAny_pure ⟨_,rfl,wpAny_pure (q _ _ hx ⟨⟨nx,g2,o'⟩,kp S _ (Ne.symm hIS) e2⟩ (qok fun b o hb z=>kp b o (fun y=>hb (by simp [y])) z))⟩
 done:=fun s Q E st q=>by
   obtain ⟨⟨slot,e,o⟩,e2⟩:=st
   exact qhw hh e e2 hf (fun A' E' Q' q'=>he s A' E' Q' slot e2 o q') fun h' kp=>q _ (qok fun b o hb z=>kp b o (fun y=>hb (by simp [y])) z)
 self:=fun i s Q E st q=>by
   obtain ⟨⟨slot,e,o⟩,e2⟩:=st
   exact qla e q
def qn1 {T:Addr} {qbM:List Nat} {pn:Nat} (hh:A.handled=none) (hIS:I≠S) (hIT:I≠T) (hf:t.fits es.size=true) (out:List Value) (hl:qbM.length=es.size) (ho:∀(i p:Nat),qbM[i]?=some p→∃x,es[p]?=some x∧out[i]?=some x.2) :
   WalksS prog w A I [I,S,T] [I] Eq es.size (fun i v=>out[i]?=some v) (fun i s=>s.heap.get? I=some (qiG (.ref T) i S es.size ep)∧s.heap.get? S=some (qeS es ep t)∧s.heap.get? T=some { cls := .type "tuple",data := .seq (qbM.map fun (p:Nat)=>rawInt p).toArray pn }) where
 sub:=fun b hb=>by simp at hb;simp [hb]
 grefl:=fun _=>rfl
 gtrans:=fun _ _ _ h1 h2=>h1.trans h2
 frame:=fun i s h' tk st _ k=>by
   obtain ⟨e,e2,e3⟩:=st
   exact ⟨k I (by simp) _ e,k S (by simp) _ e2,k T (by simp) _ e3⟩
 item:=fun i s Q E hi st q=>by
   obtain ⟨e,e2,e3⟩:=st
   have hp:qbM[i]?=some qbM[i]:=ycj (by omega)
   obtain ⟨x,hx,hy⟩:=ho i _ hp
   refine qoF (p:=qbM[i]) (tk:=0) e e3 e2 hf (by rw [List.getElem?_toArray,yco,hp];rfl) hx fun h' g sb=>?_
   exact q _ _ hy ⟨g,sb.extBut _ _ (Ne.symm hIS) e2,sb.extBut _ _ (Ne.symm hIT) e3⟩ (qok fun b o hb z=>sb.extBut b o (fun y=>hb (by simp [y])) z)
 done:=fun s Q E st q=>by
   obtain ⟨e,e2,e3⟩:=st
   exact qhC hh e e3 e2 hf (by simp [hl]) fun h' kp=>q _ (qok fun b o hb z=>kp b o (fun y=>hb (by simp [y])) z)
 self:=fun i s Q E st q=>qla st.1 q
end
end STb
namespace STb
open PySem PySem.SetTable PyProof.Rows
section
variable {prog:Program} {w:World} {A:Around} {E:Value→Shared→Prop} {s:Shared} {I S:Addr} {es:Array (Int×Value)} {ep:Nat} {t:SetTable}
def qnI {Q:Bool→Shared→Prop} (hS:s.heap.get? S=some (qeS es ep t)) (hf:t.fits es.size=true) (h:Q (!w.params.followText "set-order" && (!t.plain&&decide (es.size>1))) s):wpAny (model prog w) A (setDrawn S) Q E s:=by
 unfold setDrawn
 exact wpAny_bind (wpAny_setState_of hS rfl hf (wpAny_bind (qd2 (wpAny_pure h))))
def qhu:Slot "set" "__iter__" "set.__iter__" := PySem.F.slot_set_iter
def qqv {ns:List Int} {Q:Value→Shared→Prop} (hh:A.handled=none) (r:RS prog w s.heap S ns)
   (h:∀(I:Addr) (fp:List Addr) (n:Nat) (out:List Value) (ms:List Int) (St:Nat→Shared→Prop) (s':Shared),(∀A':Around,A'.handled=none→WalksS prog w A' I fp [I] Eq n (fun i v=>out[i]?=some v) St)→St 0 s'→I∈fp→(∀b∈fp,b<s'.heap.objs.size)→(∀b∈fp,b=S∨s.heap.objs.size≤b)→s.heap.objs.size≤I →
     IntsAre out ms→ms.Perm ns→out.length=n→(∀b o,s.heap.get? b=some o→s'.heap.get? b=some o)→s'.gens=s.gens→s'.os=s.os→s.toks≤s'.toks→Q (.ref I) s') :
   wpAny (model prog w) A (pyIter (.ref S)) Q E s:=by
 obtain ⟨es,ep,t,hS,el,pm,bd,ft,rs,ld,nd⟩:=r
 have ty:s.TypeIs (.ref S) "set" := ⟨_,hS,rfl⟩
 have intsOf:∀l:List (Int×Value),(∀e∈l,∃k,kI e.2=some k)→∃ms,IntsAre (l.map (·.2)) ms∧l.map (fun e=>kI e.2)=ms.map some:=fun l=>by
   induction l with
   | nil=>intro _;exact ⟨[],.nil,rfl⟩
   | cons e l ih =>
     intro q
     obtain ⟨ms,a,b⟩:=ih fun x hx=>q x (ybh _ hx)
     obtain ⟨k,hk⟩:=q e ybe
     obtain ⟨hsh,v⟩:=e
     cases v<;>first
       | (rename_i m tk;cases hk;exact ⟨_::ms,.cons _ _ a,by rw [ycf,ycf,b];rfl⟩)
       | cases hk
 have allk:∀e∈es.toList,∃k,kI e.2=some k:=fun e he=>by
   obtain ⟨⟨k,q,_⟩,_⟩:=el e he
   exact ⟨k,qp1.mp q⟩
 have perm:∀l:List (Int×Value),l.Perm es.toList→∃ms,IntsAre (l.map (·.2)) ms∧ms.Perm ns:=fun l hp=>by
   obtain ⟨ms,a,b⟩:=intsOf l fun e he=>allk e (hp.mem_iff.mp he)
   refine ⟨ms,a,?_⟩
   have q:(ms.map some).Perm (ns.map some):=by
     rw [←b]
     exact (hp.map _).trans pm
   have q':=q.map (fun o:Option Int=>o.getD 0)
   simpa [ycv,Function.comp_def] using q'
 have plc:t.place.size=es.size:=by
   simp only [SetTable.fits,yab,beq_iff_eq] at ft
   exact ft.1
 refine wpAny_pyIter_slot ty qhu (wpAny_call_entry qhu ty qkq ?_ (PySem.F.args_set_iter_1 _))
 unfold Builtin.«frozenset.__iter__»
 refine wpAny_bind (m:=Builtin.Frozenset.slot0 "__iter__" ⟨[.ref S],[]⟩) (wpAny_bind (wpAny_pure (wpAny_pure ?_)))
 refine wpAny_bind (m:=Builtin.Frozenset.sizeOf S) (wpAny_bind (qcd hS ft (wpAny_pure ?_)))
 refine wpAny_bind (m:=setDrawn S) (qnI hS ft ?_)
 have hlt:S<s.heap.objs.size:=ydv hS
 cases bt:w.params.followText "set-order" with
 | true =>
   rw [if_neg (by simp)]
   refine wpAny_bind (wpAny_pure (wpAny_bind (wpAny_setEpoch_of hS rfl ft (wpAny_bind (wpAny_newObj_type (wpAny_pure ⟨_,rfl, "set_iterator",_,⟨_,ydt _ rfl,rfl⟩,qbm.lookup,?_⟩))))))
   obtain ⟨ms,a,b⟩:=perm _ (qe6 (w.params.setOrder S ep) es)
   have lo:((pickOrder (w.params.setOrder S ep) es).toList.map (·.2)).length=es.size:=by rw [ycd,(qe6 _ _).length_eq,ydh]
   refine h s.heap.objs.size [s.heap.objs.size,S] es.size _ ms _ _ (fun A' hA'=>qj3 (t:=t) (ep:=ep) hA' (yea hlt) ft _ lo (fun _ _=>True) (fun s A' E' Q' i slot x e _ hx=>⟨slot,trivial,fun q=>qeI e ft bt ?_⟩) fun s A' E' Q' slot e _ q=>qeI e ft bt ?_)
     ⟨⟨0,ydt _ rfl,trivial⟩,ydu _ hS⟩ (by simp) (fun b hb=>?_) (fun b hb=>(ybg.mp hb).elim (fun z => .inr (yeh z.symm)) fun z => .inl (yei.mp z)) (yba _) a b lo (fun b o e=>ydu _ e) rfl rfl (yba _)
   · rw [yco,yda] at hx
     cases z:(pickOrder (w.params.setOrder S ep) es)[i]? with
     | none=>rw [z] at hx;cases hx
     | some y=>rw [z] at hx;cases hx;exact q
   · rw [ydd (by rw [←ydh,(qe6 _ _).length_eq,ydh];exact yba _)]
     exact q
   · rw [ydw]
     rcases ybg.mp hb with z | z
     · rw [z];exact ycx _
     · rw [yei.mp z];exact ydy hlt
 | false =>
   rw [bt] at ld
   cases dr:(!t.plain&&decide (es.size>1)) with
   | false =>
     rw [if_neg (by simp)]
     refine wpAny_bind (wpAny_pure (wpAny_bind (wpAny_setEpoch_of hS rfl ft (wpAny_bind (wpAny_newObj_type (wpAny_pure ⟨_,rfl, "set_iterator",_,⟨_,ydt _ rfl,rfl⟩,qbm.lookup,?_⟩))))))
     obtain ⟨ms,a,b⟩:=perm _ (List.Perm.refl _)
     have lo:(es.toList.map (·.2)).length=es.size:=by rw [ycd,ydh]
     refine h s.heap.objs.size [s.heap.objs.size,S] es.size _ ms _ _ (fun A' hA'=>qj3 (t:=t) (ep:=ep) hA' (yea hlt) ft _ lo (fun i slot=>SetTable.below t.place slot=i) (fun s A' E' Q' i slot x e o hx=>?_) fun s A' E' Q' slot e o q=>qdD e ft bt ld dr ?_)
       ⟨⟨0,ydt _ rfl,qkJ rs⟩,ydu _ hS⟩ (by simp) (fun b hb=>?_) (fun b hb=>(ybg.mp hb).elim (fun z => .inr (yeh z.symm)) fun z => .inl (yei.mp z)) (yba _) a b lo (fun b o e=>ydu _ e) rfl rfl (yba _)
     · rw [yco,yda] at hx
       have hi:i<es.size:=by
         rcases yah i es.size with z | z
         · exact z
         · rw [ydd z] at hx;cases hx
       have hp:t.place[i]?=some t.place[i]:=by simp [plc,hi]
       refine ⟨t.place[i]+1,qkF rs hp,fun q=>qdD e ft bt ld dr ?_⟩
       rw [o,hp]
       cases z:es[i]? with
       | none=>rw [z] at hx;cases hx
       | some y=>rw [z] at hx;cases hx;exact q
     · rw [o,ydd (yba _)]
       exact q
     · rw [ydw]
       rcases ybg.mp hb with z | z
       · rw [z];exact ycx _
       · rw [yei.mp z];exact ydy hlt
   | true =>
     rw [if_pos (by simp)]
     refine wpAny_bind (qlB es.size (List.range es.size) s _ (by simp) fun ys d hp=>wpAny_bind ?_)
     have ly:ys.length=es.size:=by rw [hp.length_eq];simp
     refine wpAny_newTuple ?_ (by rw [ycd,ly];exact fits_of_scanBound bd)
     refine wpAny_bind (wpAny_setEpoch_of (o:=qeS es ep t) (ydu _ hS) rfl ft (wpAny_bind (wpAny_newObj_type (wpAny_pure ⟨_,rfl, "set_iterator",_,⟨_,ydt _ rfl,rfl⟩,qbm.lookup,?_⟩))))
     have hy:∀p∈ys,p<es.size:=fun p hm=>ybk.mp (hp.mem_iff.mp hm)
     have pl:(ys.map fun p=>es.getD p (0,.none)).Perm es.toList:=by
       have e:es.toList=(List.range es.size).map fun p=>es.getD p (0,.none):=by
         refine yej (by simp) fun i h1 h2=>?_
         have:i<es.size:=by simpa using h1
         simp [Array.getD,this]
       rw [e]
       exact hp.map _
     obtain ⟨ms,a,b⟩:=perm _ pl
     have n1:(s.heap.push { cls:=Value.type "tuple",data:=Data.seq (ys.map fun (p:Nat)=>rawInt p).toArray }).objs.size=s.heap.objs.size+1:=ydw ..
     refine h _ [_,S,s.heap.objs.size] es.size _ ms _ _ (fun A' hA'=>qn1 (T:=s.heap.objs.size) (pn:=0) (t:=t) (ep:=ep) hA' (by rw [n1];exact yea (ydy hlt)) (by rw [n1];exact yea (ycx _)) ft _ ly fun i p hip=>?_)
       ⟨ydt _ rfl,ydu _ (ydu _ hS),ydu _ (ydt _ rfl)⟩ (by simp) (fun b hb=>?_) (fun b hb=>?_) (by rw [n1];exact ycw _) a b (by rw [ycd,ycd,ly]) (fun b o e=>ydu _ (ydu _ e)) rfl rfl (yba _)
     · have hm:=hy p (yck hip)
       refine ⟨es[p],by simp [hm],?_⟩
       rw [yco,yco,hip]
       simp [Array.getD,hm]
     · rw [ydw,n1]
       simp only [ybg,ydz,or_false] at hb
       rcases hb with z | z | z
       · rw [z]
         exact ybl (yeh n1) (ycx _)
       · rw [z];exact ydy (ydy hlt)
       · rw [z];exact ydy (ycx _)
     · simp only [ybg,ydz,or_false] at hb
       rcases hb with z | z | z
       · right
         rw [z,n1]
         exact ycw _
       · exact .inl z
       · exact .inr (yeh z.symm)
end
end STb
namespace STb
open PySem PySem.SetTable PyProof.Rows
section
variable {prog:Program} {w:World} {A:Around} {E:Value→Shared→Prop} {s:Shared} {I S:Addr}
def qgC {out:List Value} {n:Nat} (ho:out.length=n) {acc:Array Value} (h:ItemsOf (fun i v=>out[i]?=some v) acc n):acc.toList=out:=by
 refine List.ext_getElem? fun i=>?_
 rw [yda]
 rcases yah i n with z | z
 · have hs:i<acc.size:=by rw [h.1];exact z
   have:=h.2 i acc[i] (by simp [hs])
   rw [this]
   simp [hs]
 · rw [ydd (by rw [h.1];exact z),yek (by omega)]
def qiZ {ns:List Int} {Q:List Value→Shared→Prop} (hh:A.handled=none) (r:RS prog w s.heap S ns)
   (h:∀(s':Shared) (vs:List Value) (ms:List Int),IntsAre vs ms→ms.Perm ns→(∀b o,s.heap.get? b=some o→s'.heap.get? b=some o)→s.heap.objs.size<s'.heap.objs.size→s'.gens=s.gens→s'.os=s.os→Q vs s') :
   wpAny (model prog w) A (collect (.ref S)) Q E s:=by
 have hlen:=r.len
 have hSlt:S<s.heap.objs.size:=by
   obtain ⟨es,ep,t,e,_⟩:=r
   exact ydv e
 unfold collect
 refine wpAny_bind (wpAny_runValue (codeAny_builtin F.entry_proto_collect ?_))
 rw [Around.under_plainId F.plain_proto_collect _]
 refine wpAny_bind (m:=newList []) (wpAny_newObj_type ?_)
 refine wpAny_pure ⟨plainId_quiet F.plain_list_iadd _,codeAny_builtin F.entry_list_iadd ?_⟩
 rw [Around.under_plainId F.plain_list_iadd _]
 have r1:RS prog w (s.heap.push { cls := .type "list",data := .seq ([]:List Value).toArray }) S ns:=r.keep fun o e=>ydu _ e
 have ty1:Shared.TypeIs { s with heap:=s.heap.push { cls := .type "list",data := .seq ([]:List Value).toArray } } (.ref S) "set" := by
   obtain ⟨es,ep,t,e,_⟩:=r1
   exact ⟨_,e,rfl⟩
 show wpAny _ A.in1 (Builtin.List.listExtendWith (.ref s.heap.objs.size) (.ref S) (.ref s.heap.objs.size)) _ _ _
 unfold Builtin.List.listExtendWith
 refine wpAny_bind (wpAny_typeOf ty1 ?_)
 have d1:Builtin.List.listSameRef (.ref s.heap.objs.size) (.ref S)=false:=by
   simp only [Builtin.List.listSameRef,beq_eq_false_iff_ne,ne_eq]
   exact yea hSlt
 have d2:(Value.type "set" == Value.type "list")=false:=by decide
 have d3:(Value.type "set" == Value.type "tuple")=false:=by decide
 simp only [d1,d2,d3,yel,yem,if_false]
 have hh1:A.in1.handled=none:=by simp [hh]
 refine wpAny_bind (qqv hh1 r1 fun I fp n out ms St s2 W st0 hI hfp hfs hge hi hp ho kp eg eo htk=>?_)
 have ty2:s2.TypeIs (.ref S) "set" := by
   obtain ⟨es,ep,t,e,_⟩:=r1
   exact ⟨_,kp _ _ e,rfl⟩
 refine wpAny_bind (wpAny_holding ?_)
 unfold Builtin.List.listLengthHint
 refine wpAny_bind (wpAny_specialOf ty2 qhx ?_)
 refine wpAny_bind (m:=isInstance (.ref S) (.type "set")) (wpAny_isInstance ty2 qir ?_)
 simp only [Bool.not_true,yem,if_false]
 refine wpAny_ite_split (fun _=>?_) (fun z=>absurd (by decide +kernel) z)
 refine wpAny_bind (wpAny_typeOf ty2 (wpAny_pure ?_))
 refine wpAny_ite_split (fun _=>?_) (fun z=>absurd (by decide +kernel) z)
 refine wpAny_bind (wpAny_rule ?_)
 have g0:(s.heap.push { cls := .type "list",data := .seq ([]:List Value).toArray }).get? s.heap.objs.size=some { cls := .type "list",data := .seq ([]:List Value).toArray }:=ydt _ rfl
 have g2:=kp _ _ g0
 have Iout:s.heap.objs.size<I:=by
   rw [ydw] at hge
   exact hge
 refine wpAny_bind (m:=Builtin.List.listTouch (.ref s.heap.objs.size)) ?_
 refine wpAny_bind (m:=updateSeq s.heap.objs.size (·.push .none)) (wpAny_updateSeq g2 rfl ?_)
 have g3:=ydr (Obj.mapSeq (·.push Value.none)) g2 rfl
 refine wpAny_updateSeq g3 rfl ?_
 have g4:=ydr (Obj.mapSeq (·.pop)) g3 rfl
 have oth:∀b o,b≠s.heap.objs.size→s2.heap.get? b=some o→((s2.heap.update s.heap.objs.size (Obj.mapSeq (·.push Value.none))).update s.heap.objs.size (Obj.mapSeq (·.pop))).get? b=some o :=
   fun b o hb e=>(yeg _ _ (Ne.symm hb)).trans ((yeg _ _ (Ne.symm hb)).trans e)
 have hSf:s.heap.objs.size∉fp:=fun z=>by
   rcases hfs _ z with y | y
   · exact absurd hSlt (by rw [←y];exact yen _)
   · rw [ydw] at y
     exact yen _ y
 have W1:=W A.in1 (by simp [hh])
 have hn:n≤sizeLine:=by
   have e1:=hi.length
   have e2:=hp.length_eq
   have:=fits_of_scanBound hlen
   omega
 refine wpAny_pure ⟨plainId_quiet F.plain_extend_loop _,codeAny_extend_loopS W1 hn _ hSf _ n 0 _ _ _ rfl (ybz _) (W1.frame 0 s2 _ s2.toks st0 (yba _) fun b hb o e=>oth b o (fun z=>hSf (z▸hb)) e) g4 (ItemsOf.nil _) fun s3 acc c mv gS hacc=>?_⟩
 refine wpAny_bind (wpAny_load gS (wpAny_pure ?_))
 rw [qgC ho hacc]
 refine h s3 out ms hi hp (fun b o e=>?_) (ydv gS) (mv.gens.symm.trans eg) (mv.os.trans eo)
 have hb:b≠s.heap.objs.size:=ydx (ydv e)
 have hbI:b≠I:=ydx (ybo (ydv e) Iout)
 exact mv.heap b o (by simp only [ybg,ydz,or_false,not_or];exact ⟨hb,hbI⟩) (oth b o hb (kp b o (ydu _ e)))
end
end STb
namespace L2
open PySem PySem.Spec PyProof.Rows
abbrev Key:=Sum Int Str
def qki:Key→Value→Bool
 | .inl k,v=>Value.isInt k v
 | .inr x,v=>Value.isStrOf x v
def quM (w:World):Key→Int
 | .inl k=>hashInt k
 | .inr x=>hashStr w x
def qaX:∀{k:Key} {v:Value},qki k v=true→(∃i t,k=Sum.inl i∧v=Value.int i t)∨(∃x t,k=Sum.inr x∧v=Value.str x t)
 | .inl i,v,h=>by
   obtain ⟨t,e⟩:=Value.isInt_shape (k:=i) (v:=v) h
   exact .inl ⟨i,t,rfl,e⟩
 | .inr x,v,h=>by
   obtain ⟨t,e⟩:=Value.isStrOf_shape (x:=x) (v:=v) h
   exact .inr ⟨x,t,rfl,e⟩
def qmx (i:Int) (t:Tok):qki (.inl i) (.int i t)=true:=by simp [qki,Value.isInt]
def ql6 (x:Str) (t:Tok):qki (.inr x) (.str x t)=true:=by simp [qki,Value.isStrOf]
def qsA (a b:Int):decide ((Sum.inl a:Key)=Sum.inl b)=(a==b):=by
 by_cases e:a=b
 · subst e;simp
 · have h:¬(Sum.inl a:Key)=Sum.inl b:=fun q=>e (Sum.inl.inj q)
   rw [decide_eq_false h]
   exact (beq_eq_false_iff_ne.mpr e).symm
def qsB (a b:Str):decide ((Sum.inr a:Key)=Sum.inr b)=decide (a=b):=by
 by_cases e:a=b
 · subst e;simp
 · have h:¬(Sum.inr a:Key)=Sum.inr b:=fun q=>e (Sum.inr.inj q)
   rw [decide_eq_false h,decide_eq_false e]
def qry (a:Int) (b:Str):decide ((Sum.inl a:Key)=Sum.inr b)=false:=decide_eq_false (fun q=>nomatch q)
def qtn (a:Str) (b:Int):decide ((Sum.inr a:Key)=Sum.inl b)=false:=decide_eq_false (fun q=>nomatch q)
def qa0 (prog:Program) (w:World):PySem.KeyKind prog w Key where
 is:=qki
 hash:=quM w
 inj:=fun v a b ha hb=>by
   rcases qaX ha with ⟨i,t,rfl,rfl⟩ | ⟨x,t,rfl,rfl⟩
   · rcases qaX hb with ⟨j,u,rfl,e⟩ | ⟨y,u,rfl,e⟩
     · injection e with e1 _;rw [e1]
     · exact nomatch e
   · rcases qaX hb with ⟨j,u,rfl,e⟩ | ⟨y,u,rfl,e⟩
     · exact nomatch e
     · injection e with e1 _;rw [e1]
 byValue:=fun k v h=>by
   rcases qaX h with ⟨i,t,rfl,rfl⟩ | ⟨x,t,rfl,rfl⟩<;>rfl
 pyHash:=fun hv h=>by
   rcases qaX hv with ⟨i,t,rfl,rfl⟩ | ⟨x,t,rfl,rfl⟩
   · exact wpAny_pyHash_int h
   · exact wpAny_pyHash_str h
 eqBool:=fun hu hv h=>by
   rcases qaX hu with ⟨i,t,rfl,rfl⟩ | ⟨x,t,rfl,rfl⟩
   · rcases qaX hv with ⟨j,u,rfl,rfl⟩ | ⟨y,u,rfl,rfl⟩
     · rw [qsA] at h;exact wpAny_eqBool_int h
     · rw [qry] at h;exact SeqAt.EqAt.int_str i t y u _ _ _ _ h
   · rcases qaX hv with ⟨j,u,rfl,rfl⟩ | ⟨y,u,rfl,rfl⟩
     · rw [qtn] at h;exact SeqAt.EqAt.str_int x t j u _ _ _ _ h
     · rw [qsB] at h;exact wpAny_eqBool_str h
 «strs»:=fun k x t v h=>by
   rcases qaX h with ⟨i,u,rfl,e⟩ | ⟨y,u,rfl,e⟩
   · exact nomatch e
   · injection e with e1 _
     subst e1
     cases v<;>rfl
def qiO (prog:Program) (w:World) (i:Int) (t:Tok):(qa0 prog w).is (.inl i) (.int i t)=true:=qmx i t
def qi0 (prog:Program) (w:World) (x:Str) (t:Tok):(qa0 prog w).is (.inr x) (.str x t)=true:=ql6 x t
end L2
namespace L2
open PySem PySem.Spec PyProof.Rows
inductive V where
 | non | bl (b:Bool) | int (i:Int) | str (x:Str) | byt (b:Array UInt8) | flt (b:UInt64) | ref (a:Addr) | ty (n:String)
 deriving DecidableEq
def qbb:V→Value→Prop
 | .non,u=>u=Value.none
 | .bl b,u=>u=Value.bool b
 | .int i,u=>∃t,u=Value.int i t
 | .str x,u=>∃t,u=Value.str x t
 | .byt b,u=>∃t,u=Value.bytes b t
 | .flt b,u=>∃t,u=Value.float b t
 | .ref a,u=>u=Value.ref a
 | .ty n,u=>u=Value.type n
abbrev qaV:List V→List Value→Prop:=Paired qbb
def qaV.length {xs:List V} {us:List Value} (r:qaV xs us):xs.length=us.length:=Paired.length r
def qaV.get:∀{xs:List V} {us:List Value} {i:Nat} {x:V},qaV xs us→xs[i]?=some x→∃u,us[i]?=some u∧qbb x u
 | _,_,_,_,.nil,e=>by simp at e
 | _,_,0,_,.cons r _,e=>by simp at e;subst e;exact ⟨_,rfl,r⟩
 | _,_,i+1,x,.cons _ t,e=>by
   obtain ⟨u,h1,h2⟩:=qaV.get (i:=i) (x:=x) t (by simpa using e)
   exact ⟨u,by simpa using h1,h2⟩
def qaV.set {x:V} {u:Value} (r:qbb x u):∀{xs:List V} {us:List Value} (i:Nat),qaV xs us→qaV (xs.set i x) (us.set i u)
 | _,_,_,.nil => .nil
 | _,_,0,.cons _ t => .cons r t
 | _,_,i+1,.cons q t => .cons q (qaV.set r i t)
def qaV.append:∀{xs ys:List V} {us ws:List Value},qaV xs us→qaV ys ws→qaV (xs++ys) (us++ws)
 | _,_,_,_,.nil,s=>s
 | _,_,_,_,.cons r t,s => .cons r (qaV.append t s)
def qaV.take:∀{xs:List V} {us:List Value} (n:Nat),qaV xs us→qaV (xs.take n) (us.take n)
 | _,_,0,_ => .nil
 | _,_,_+1,.nil => .nil
 | _,_,n+1,.cons r t => .cons r (qaV.take n t)
def qaV.drop:∀{xs:List V} {us:List Value} (n:Nat),qaV xs us→qaV (xs.drop n) (us.drop n)
 | _,_,0,r=>r
 | _,_,_+1,.nil => .nil
 | _,_,n+1,.cons _ t=>qaV.drop n t
def qhs:Option V→Option Value→Prop
 | some v,some u=>qbb v u
 | none,none=>True
 | _,_=>False
def KV {κ:Type}:List (κ×V)→List (κ×Value)→Prop:=Paired fun (p:κ×V) (q:κ×Value)=>p.1=q.1∧qbb p.2 q.2
def kV:Key→V
 | .inl i => .int i
 | .inr x => .str x
inductive HO where
 
 | lst (xs:List V)
 
 | tup (xs:List V)
 
 | dK (kvs:List (Key×V)) | dT (kvs:List (List Key×V))
 
 | set (S:Int→Bool) (n:Nat)
 
 | ins (C dx:Addr) (fs:List (Str×V))
 
 | own (x:Addr)
 
 | xd (fs:List (Str×V))
 
 | met (f x:Addr)
 
 | rng (lo hi:Int)
 
 | frz (o:Obj) (u:HO)
 
 | tbl (ps:Array Value)
 
 | ext (φ:Heap→Prop)
abbrev Hp:=Addr→Option HO
def upd (H:Hp) (a:Addr) (o:HO):Hp:=fun b=>if b=a then some o else H b
def qaf {H:Hp} {a:Addr} {o:HO}:upd H a o a=some o:=by unfold upd;rw [if_pos rfl]
def qay {H:Hp} {a b:Addr} {o:HO} (h:b≠a):upd H a o b=H b:=by unfold upd;rw [if_neg h]
def qfi {H:Hp} {a:Addr} {o u:HO}:upd (upd H a o) a u=upd H a u:=by
 funext b;unfold upd;split<;>rfl
def qtA {H:Hp} {a b:Addr} {o u:HO} (h:H a=some o) (h':H b=some u) (d:o≠u):a≠b:=by
 intro e;subst e;rw [h] at h';exact d (Option.some.inj h')
def qaZ {H:Hp} {a b:Addr} {o:HO} (h:H a=some o) (h':H b=none):a≠b:=by
 intro e;subst e;rw [h] at h';cases h'
section
variable (P:Program) (w:World)
def qbl (H:Hp) (h:Heap) (a:Addr):HO→Prop
 | .lst xs=>xs.length≤sizeLine∧∃(its:List Value) (n:Nat),qaV xs its∧h.get? a=some { cls := .type "list",data := .seq its.toArray n }
 | .tup xs=>xs.length≤sizeLine∧∃its:List Value,qaV xs its∧IsTup h a its.toArray
 | .dK kvs=>kvs.length≤sizeLine∧(a==sysModules)=false∧∃vs,KV kvs vs∧h.DictOf (qa0 P w) a vs
 | .dT kvs=>kvs.length≤sizeLine∧(a==sysModules)=false∧∃xs:List (List Key×Addr×Value),
     Paired (fun (p:List Key×V) (q:List Key×Addr×Value)=>p.1=q.1∧H q.2.1=some (.tup (p.1.map kV))∧qbb p.2 q.2.2) kvs xs ∧
     ∃o es ep,h.get? a=some o∧o.ExactDict∧o.data = .dict es ep∧es.toList=xs.map (entryOfKey (tupleKind (qa0 P w)))∧(xs.map (·.1)).Nodup
 | .set S n=>h.SetOf (intKind P w) a S n
 | .ins C dx fs=>H dx=some (.own a)∧fs.length≤1000∧dx≠a∧h.get? a=some (PySem.W.instObj C dx) ∧
     ∃mA,h.Ns1 dx mA∧(∀f,qhs (fs.lookup f) (mA f))∧PySem.Within mA (fs.map (·.1))
 | .own _=>∃o,h.get? a=some o
 | .xd fs=>∃mA,h.Ns1 a mA∧∀f,qhs (fs.lookup f) (mA f)
 | .rng lo hi=>∃t u v,h.get? a=some { cls := .type "range",data := .fields #[.int lo t,.int hi u,.int 1 v] }
 | .frz o u=>h.get? a=some o∧qbl H h a u
 | .tbl ps=>h.get? a=some { cls := .none,data := .fields ps }
 | .met f x=>h.get? a=some (PySem.W.methodObj (.ref f) (.ref x))
 | .ext φ=>φ h∧(∃o,h.get? a=some o)∧∀h1 h2:Heap,φ h1→(∀o,h1.get? a=some o→h2.get? a=some o)→φ h2
def HOk (H:Hp) (h:Heap):Prop:=∀a o,H a=some o→qbl P w H h a o
end
section
variable {P:Program} {w:World} {H H':Hp} {h h':Heap} {a:Addr} {o:HO}
def qbl.lt (x:qbl P w H h a o):a<h.objs.size:=by
 cases o with
 | lst xs=>obtain ⟨_,_,_,_,e⟩:=x;exact ydv e
 | tup xs=>obtain ⟨_,_,_,p⟩:=x;exact p.lt
 | dK kvs=>obtain ⟨_,_,_,_,o,_,_,e,_⟩:=x;exact ydv e
 | dT kvs=>obtain ⟨_,_,_,_,o,_,_,e,_⟩:=x;exact ydv e
 | set S n=>obtain ⟨o,_,_,_,e,_⟩:=x;exact ydv e
 | ins C dx fs=>obtain ⟨_,_,_,e,_⟩:=x;exact ydv e
 | own y=>obtain ⟨_,e⟩:=x;exact ydv e
 | xd fs=>obtain ⟨_,⟨_,_,_,e,_⟩,_⟩:=x;exact ydv e
 | rng lo hi=>obtain ⟨_,_,_,e⟩:=x;exact ydv e
 | frz ob u=>obtain ⟨e,_⟩:=x;exact ydv e
 | tbl ps=>exact ydv (show h.get? a=some _ from x)
 | met f y=>exact ydv (show h.get? a=some _ from x)
 | ext φ=>obtain ⟨_,⟨_,e⟩,_⟩:=x;exact ydv e
def Paired.mapP {α β:Type} {F G:α→β→Prop}:∀{l₁:List α} {l₂:List β},Paired F l₁ l₂→(∀a b,F a b→G a b)→Paired G l₁ l₂
 | _,_,.nil,_ => .nil
 | _,_,.cons r t,f => .cons (f _ _ r) (Paired.mapP t f)
def qbl.stay (x:qbl P w H h a o) (k:∀b u,(b=a∨H b=some (.own a))→h.get? b=some u→h'.get? b=some u)
   (ho:∀b,H b=some (.own a)→H' b=some (.own a)) (ht:∀b xs,H b=some (.tup xs)→H' b=some (.tup xs)):qbl P w H' h' a o:=by
 induction o with
 | lst xs=>obtain ⟨z,its,n,r,e⟩:=x;exact ⟨z,its,n,r,k _ _ (.inl rfl) e⟩
 | tup xs=>obtain ⟨z,its,r,ob,e,c⟩:=x;exact ⟨z,its,r,ob,k _ _ (.inl rfl) e,c⟩
 | dK kvs=>obtain ⟨z,y,vs,r,ob,es,ep,e,c⟩:=x;exact ⟨z,y,vs,r,ob,es,ep,k _ _ (.inl rfl) e,c⟩
 | dT kvs =>
   obtain ⟨z,y,xs,r,ob,es,ep,e,c⟩:=x
   exact ⟨z,y,xs,Paired.mapP r fun p q z=>⟨z.1,ht _ _ z.2.1,z.2.2⟩,ob,es,ep,k _ _ (.inl rfl) e,c⟩
 | set S n=>obtain ⟨ob,es,ep,t,e,c⟩:=x;exact ⟨ob,es,ep,t,k _ _ (.inl rfl) e,c⟩
 | ins C dx fs =>
   obtain ⟨d,z,ne,e,mA,⟨od,es,ep,e2,c⟩,r⟩:=x
   exact ⟨ho _ d,z,ne,k _ _ (.inl rfl) e,mA,⟨od,es,ep,k _ _ (.inr d) e2,c⟩,r⟩
 | own y=>obtain ⟨ob,e⟩:=x;exact ⟨ob,k _ _ (.inl rfl) e⟩
 | xd fs=>obtain ⟨mA,⟨od,es,ep,e,c⟩,r⟩:=x;exact ⟨mA,⟨od,es,ep,k _ _ (.inl rfl) e,c⟩,r⟩
 | rng lo hi=>obtain ⟨t,u,v,e⟩:=x;exact ⟨t,u,v,k _ _ (.inl rfl) e⟩
 | frz ob u ih=>obtain ⟨e,q⟩:=x;exact ⟨k _ _ (.inl rfl) e,ih q⟩
 | tbl ps =>
   have e:h.get? a=some { cls := .none,data := .fields ps }:=x
   show h'.get? a=some { cls := .none,data := .fields ps }
   exact k a _ (.inl rfl) e
 | met f y =>
   have e:h.get? a=some (PySem.W.methodObj (.ref f) (.ref y)):=x
   show h'.get? a=some (PySem.W.methodObj (.ref f) (.ref y))
   exact k a _ (.inl rfl) e
 | ext φ=>obtain ⟨p,⟨o,e⟩,st⟩:=x;exact ⟨st _ _ p fun o q=>k _ _ (.inl rfl) q,⟨o,k _ _ (.inl rfl) e⟩,st⟩
def HOk.lt (x:HOk P w H h) (e:H a=some o):a<h.objs.size:=(x a o e).lt
def HOk.fresh (x:HOk P w H h) (e:h.objs.size≤a):H a=none:=by
 cases q:H a with
 | none=>rfl
 | some u=>exact absurd (yaf (x.lt q) e) (yen _)
def HOk.kept (x:HOk P w H h) (k:∀b u,h.get? b=some u→h'.get? b=some u):HOk P w H h':=fun a o e =>
 (x a o e).stay (fun b u _ q=>k b u q) (fun _ q=>q) fun _ _ q=>q
def HOk.laid (x:HOk P w H h) (k:∀b u,h.get? b=some u→h'.get? b=some u) (hp:h.objs.size≤a) (new:qbl P w (upd H a o) h' a o):HOk P w (upd H a o) h':=fun b u e=>by
 have hn:=x.fresh hp
 by_cases hb:b=a
 · subst hb;rw [qaf] at e;cases e;exact new
 · rw [qay hb] at e
   exact (x b u e).stay (fun c v _ q=>k c v q) (fun c q=>by rw [qay (qaZ q hn)];exact q) fun c xs q=>by rw [qay (qaZ q hn)];exact q
end
def Rd (H:Hp) (a:Addr) (u:HO):Prop:=H a=some u∨∃o,H a=some (.frz o u)
def Rd.ok {P:Program} {w:World} {H:Hp} {h:Heap} {a:Addr} {u:HO} (r:Rd H a u) (x:HOk P w H h):qbl P w H h a u:=by
 rcases r with r | ⟨o,r⟩
 · exact x a u r
 · obtain ⟨_,q⟩:=x a _ r
   exact q
def Mut:Option HO→Prop
 | some (.lst _)=>True
 | some (.dK _)=>True
 | some (.dT _)=>True
 | some (.set _ _)=>True
 | some (.ins _ _ _)=>True
 | some (.ext _)=>True
 | _=>False
section
variable {P:Program} {w:World} {H:Hp} {h h':Heap} {x e:Addr} {o':HO}
def HOk.write (ok:HOk P w H h) (mu:Mut (H x)) (he:e=x∨H e=some (.own x)) (k:∀b u,b≠e→h.get? b=some u→h'.get? b=some u) (heo:∃u,h'.get? e=some u)
   (new:qbl P w (upd H x o') h' x o'):HOk P w (upd H x o') h':=fun b u q=>by
 have nown:∀c y,H c=some (.own y)→c≠x:=fun c y r z=>by subst z;rw [r] at mu;exact mu
 have ntup:∀c xs,H c=some (.tup xs)→c≠x:=fun c xs r z=>by subst z;rw [r] at mu;exact mu
 by_cases hb:b=x
 · subst hb;rw [qaf] at q;cases q;exact new
 · rw [qay hb] at q
   by_cases hbe:b=e
   · have q':H b=some (.own x):=by
       rcases he with z | z
       · exact absurd (hbe.trans z) hb
       · rw [hbe];exact z
     rw [q] at q';cases q'
     obtain ⟨v,hv⟩:=heo
     exact ⟨v,by rw [hbe];exact hv⟩
   · refine (ok b u q).stay (fun c v hc r=>k c v ?_ r) (fun c r=>by rw [qay (nown c b r)];exact r) fun c xs r=>by rw [qay (ntup c xs r)];exact r
     rcases hc with rfl | hc
     · exact hbe
     · rintro rfl
       rcases he with z | z
       · exact nown c b hc z
       · rw [hc] at z;cases z;exact hb rfl
end
structure Un (fs ex:List Addr) (H H':Hp) (h h':Heap):Prop where
 keep:∀b o,h.get? b=some o→H b=none→b∉fs→b∉ex→h'.get? b=some o
 slot:∀b o,h.get? b=some o→H b=none→b∈fs→b∉ex→∃sl,h'.get? b=some { o with slots:=sl }
 free:∀b o,h.get? b=some o→H b=none→b∉ex→H' b=none
 there:∀b o,h.get? b=some o→b∉ex→∃o',h'.get? b=some o'
 tups:∀b xs,H b=some (.tup xs)→H' b=some (.tup xs)
 frzs:∀b o u,H b=some (.frz o u)→H' b=some (.frz o u)
 tbls:∀b ps,H b=some (.tbl ps)→∃qjW,H' b=some (.tbl (ps++qjW))
section
variable {fs fs' ex ex':List Addr} {H H1 H2:Hp} {h h1 h2 h':Heap} {a x e:Addr} {o:HO}
def Un.any (u:Un fs ex H H1 h h1) {b:Addr} {ob:Obj} (q:h.get? b=some ob) (n:H b=none) (hx:b∉ex):∃sl,h1.get? b=some { ob with slots:=sl }:=by
 by_cases hb:b∈fs
 · exact u.slot b ob q n hb hx
 · exact ⟨ob.slots,u.keep b ob q n hb hx⟩
def Un.kept (k:∀b u,h.get? b=some u→h'.get? b=some u):Un fs ex H H h h' :=
 ⟨fun b ob q _ _ _=>k b ob q,fun b ob q _ _ _=>⟨ob.slots,k b ob q⟩,fun _ _ _ n _=>n,fun b ob q _=>⟨ob,k b ob q⟩,fun _ _ q=>q,fun _ _ _ q=>q,fun _ ps q=>⟨#[],by rw [q];simp⟩⟩
def Un.refl:Un fs ex H H h h:=Un.kept fun _ _ q=>q
def Un.laid (k:∀b u,h.get? b=some u→h'.get? b=some u) (hp:h.objs.size≤a) (hn:H a=none):Un fs ex H (upd H a o) h h' where
 keep:=fun b u q _ _ _=>k b u q
 slot:=fun b u q _ _ _=>⟨u.slots,k b u q⟩
 free:=fun b u q n _=>by rw [qay (ydx (yaf (ydv q) hp))];exact n
 there:=fun b u q _=>⟨u,k b u q⟩
 tups:=fun b xs q=>by rw [qay (qaZ q hn)];exact q
 frzs:=fun b u xs q=>by rw [qay (qaZ q hn)];exact q
 tbls:=fun b ps q=>⟨#[],by rw [qay (qaZ q hn),q];simp⟩
def Un.write (mu:Mut (H x)) (he:e=x∨H e=some (.own x)) (k:∀b u,b≠e→h.get? b=some u→h'.get? b=some u) (heo:∃u,h'.get? e=some u):Un fs ex H (upd H x o) h h':=by
 have hx:∀b,H b=none→b≠x:=fun b n z=>by subst z;rw [n] at mu;exact mu
 have hb:∀b,H b=none→b≠e:=fun b n z=>by
   subst z
   rcases he with r | r
   · exact hx b n r
   · rw [n] at r;cases r
 have hm:∀b u,H b=some u→¬Mut (some u)→b≠x:=fun b u q nm z=>by subst z;rw [q] at mu;exact nm mu
 refine ⟨fun b u q n _ _=>k b u (hb b n) q,fun b u q n _ _=>⟨u.slots,k b u (hb b n) q⟩,fun b u q n _=>by rw [qay (hx b n)];exact n,fun b u q _=>?_,
   fun b xs q=>by rw [qay (hm b _ q fun z=>z)];exact q,fun b u xs q=>by rw [qay (hm b _ q fun z=>z)];exact q,fun b ps q=>⟨#[],by rw [qay (hm b _ q fun z=>z),q];simp⟩⟩
 by_cases hbe:b=e
 · subst hbe;exact heo
 · exact ⟨u,k b u hbe q⟩
end
def trk (h:Heap) (H:Hp):List Addr:=(List.range h.objs.size).filter fun a=>(H a).isSome
def qnl (h:Heap) (H:Hp):Heap:=PySem.W.hideAll h (trk h H)
def qmq (h:Heap) (H:Hp):(qnl h H).objs.size=h.objs.size:=PySem.W.hideAll_size _ _
def qns {h:Heap} {H:Hp} {b:Addr} {o:Obj} (e:h.get? b=some o) (n:H b=none):(qnl h H).get? b=some o :=
 PySem.W.hideAll_get _ e fun hm=>by
   have q:(H b).isSome=true:=(ybb.mp hm).2
   rw [n] at q;simp at q
def qqb {h:Heap} {H:Hp} {b:Addr} {o:Obj} (e:(qnl h H).get? b=some o):h.get? b=some o∧H b=none:=by
 have e':h.get? b=some o:=PySem.W.of_hideAll (trk h H) e
 refine ⟨e',?_⟩
 cases q:H b with
 | none=>rfl
 | some x =>
   have hm:b∈trk h H:=ybb.mpr ⟨ybk.mpr (ydv e'),by simp [q]⟩
   have z:(qnl h H).get? b=none:=PySem.W.hideAll_none (trk h H) hm
   rw [z] at e;cases e
def qqX (g h:Heap) (L:Addr):List (Addr×Obj):=(List.range h.objs.size).filterMap fun a=>if a=L∨(g.get? a).isSome=true then none else (h.get? a).map fun o=>(a,o)
def qiF (g h:Heap) (L d:Addr):List (Addr×Obj):=(qqX g h L).filter fun p=>decide (p.1≠d)
end L2
namespace L2
open PySem PySem.Spec PyProof.Rows
structure Mod (K:PySem.W.Frag) (mg:Str→Option Value) (base:Heap):Prop where
 kin:K.In base
 glob:base.Ns mainGlobals mg
 blt:∃mb,base.Ns builtinsNs mb∧∀x:Str,x ≠ "__name__" → mb x=bootBuiltins x
 nolimit:base.NoLimit
structure Cx where
 prog:Program
 w:World
 K:PySem.W.Frag
 mg:Str→Option Value
 base:Heap
 A:Around
 N:List Str
 s₀:Shared
 H₀:Hp
 env:Env
 outer:List Env
 stack:List Env
 ex:List Addr
 fn:Str→Bool
 calm:Bool
 pn:List (Addr×Obj)
 xe:Value→Shared→Prop
def frs (l:List Env):List Addr:=l.filterMap (·.frame)
abbrev Cx.fs (X:Cx):List Addr:=frs X.outer
def Vis (sc:Scope) (x:Str):Prop:=sc.names.lookup x=some .local∨sc.names.lookup x=some .cell∨sc.names.lookup x=some .free
def Loc (sc:Scope) (x:Str):Prop:=sc.names.lookup x=some .local∨sc.names.lookup x=some .cell
def qu5 (env:Env) (h:Heap) (m:Str→Option Value) (x:Str) (u:Value):Prop :=
 (env.kindOf x=some .local∧m x=some u)∨((env.kindOf x=some .cell∨env.kindOf x=some .free)∧∃c,env.cells.lookup x=some c∧h.IsCell c (some u))
structure Cx.Ok (X:Cx):Prop where
 mod:Mod X.K X.mg X.base
 kind:X.env.scope.kind = .function
 glob:X.env.globals=mainGlobals
 blt:X.env.builtins=builtinsNs
 above:X.s₀.heap.objs.size≤X.env.locals
 inj:∀x y c,X.env.cells.lookup x=some c→X.env.cells.lookup y=some c→x=y
 has:∀x,(X.env.kindOf x=some .cell∨X.env.kindOf x=some .free)→∃c,X.env.cells.lookup x=some c
 cab:∀x c,X.fn x=true→X.env.cells.lookup x=some c→X.s₀.heap.objs.size≤c
 hd:X.calm=true→X.A.handled=none
 frames:X.A.frames=some X.stack
 stk:X.stack=X.outer∨(X.stack=X.env::X.outer∧X.env.frame=some X.env.locals)
 exf:∀b∈X.ex,b≠X.env.locals∧∀x c,X.env.cells.lookup x=some c→c≠b
 bs:∀b o,X.base.get? b=some o→X.s₀.heap.get? b=some o∧X.H₀ b=none
 bsz:X.base.objs.size≤X.s₀.heap.objs.size
 noex:∀b o,X.base.get? b=some o→b∉X.ex
 exfs:∀b∈X.ex,b∉X.fs
 funs:X.s₀.heap.FunFrames X.base X.outer
 frf:∀b∈X.fs,X.H₀ b=none
structure Inv (X:Cx) (pins:List (Addr×Obj)) (σ:List (Option V)) (H:Hp) (s:Shared):Prop where
 ok:X.Ok
 os:s.os=X.s₀.os
 bare:AllBare s.gens
 base:Un X.fs X.ex X.H₀ H X.s₀.heap s.heap
 loc:∃m,s.heap.Ns X.env.locals m∧∀(i:Nat) (x:Str) (v:V),X.N[i]?=some x→σ[i]?=some (some v)→Vis X.env.scope x→∃u,qbb v u∧qu5 X.env s.heap m x u
 cell:∀x c,X.env.cells.lookup x=some c→∃v,s.heap.IsCell c v
 free:H X.env.locals=none
 freeC:∀x c,X.env.cells.lookup x=some c→H c=none
 pin:∀p∈X.pn++pins,s.heap.get? p.1=some p.2∧H p.1=none∧p.1≠X.env.locals∧p.1∉X.fs∧∀v,p.2.data ≠ .cell v
 hok:HOk X.prog X.w H s.heap
 len:σ.length=X.N.length
section
variable {X:Cx} {pins:List (Addr×Obj)} {σ:List (Option V)} {H H':Hp} {s:Shared} {h':Heap}
def Cx.Ok.nofr (ok:X.Ok) {b:Addr} {o:Obj} (e:X.base.get? b=some o):b∉X.fs:=fun hb=>by
 have:=(ok.funs.mem hb).1
 rw [e] at this;cases this
def Inv.bs (I:Inv X pins σ H s):∀b o,X.base.get? b=some o→s.heap.get? b=some o∧H b=none:=fun b o e =>
 ⟨I.base.keep b o (I.ok.bs b o e).1 (I.ok.bs b o e).2 (I.ok.nofr e) (I.ok.noex b o e),I.base.free b o (I.ok.bs b o e).1 (I.ok.bs b o e).2 (I.ok.noex b o e)⟩
def Inv.bk (I:Inv X pins σ H s):∀b o,X.base.get? b=some o→s.heap.get? b=some o:=fun b o e=>(I.bs b o e).1
def Inv.mod (I:Inv X pins σ H s):Mod X.K X.mg X.base:=I.ok.mod
def Inv.kIn (I:Inv X pins σ H s):X.K.In s.heap:=I.ok.mod.kin.keeps I.bk
def Inv.fr (I:Inv X pins σ H s):∃m,Fr X.base X.env.locals s.heap m :=
 let ⟨m,hn,_⟩:=I.loc
 ⟨m,hn,I.bk,ydc I.ok.bsz I.ok.above⟩
def Inv.lt (I:Inv X pins σ H s):X.env.locals<s.heap.objs.size:=let ⟨_,hn,_⟩:=I.loc;hn.lt
def Inv.sz (I:Inv X pins σ H s):X.s₀.heap.objs.size≤s.heap.objs.size:=ydc I.ok.above (ydb I.lt)
def Inv.nofs (I:Inv X pins σ H s) {a:Addr} (h:s.heap.objs.size≤a):a∉X.fs:=fun hb=>by
 obtain ⟨_,o,ho,_⟩:=I.ok.funs.mem hb
 exact absurd (yaf (ydv ho) (ydc I.sz h)) (yen _)
def Inv.cne (I:Inv X pins σ H s):∀x c,X.env.cells.lookup x=some c→c≠X.env.locals:=fun x c e z=>by
 obtain ⟨v,o,ho,hd⟩:=I.cell x c e
 obtain ⟨m,⟨o',es,ep,ho',hd',_⟩,_⟩:=I.loc
 rw [z,ho'] at ho;cases ho;rw [hd'] at hd;cases hd
def Inv.funs (I:Inv X pins σ H s):s.heap.FunFrames X.base X.outer:=by
 have all:∀(l:List Env),(∀b∈frs l,b∈X.fs)→X.s₀.heap.FunFrames X.base l→s.heap.FunFrames X.base l:=by
   intro l
   induction l with
   | nil=>intro _ _;trivial
   | cons env r ih =>
     intro hs hl
     obtain ⟨hk,⟨L,o,hf,hn,ho,hd⟩,hr⟩:=hl
     have hL:L∈X.fs:=hs L (by unfold frs;rw [ydn,hf];exact ybe)
     obtain ⟨sl,e⟩:=I.base.slot L o ho (I.ok.frf L hL) hL fun z=>I.ok.exfs L z hL
     exact ⟨hk,⟨L,_,hf,hn,e,hd⟩,ih (fun b hb=>hs b (by unfold frs;rw [ydn,hf];exact ybh _ hb)) hr⟩
 exact all X.outer (fun _ hb=>hb) I.ok.funs
def Inv.stack (I:Inv X pins σ H s):s.heap.FunFrames X.base X.stack:=by
 rcases I.ok.stk with e | ⟨e,hf⟩
 · rw [e];exact I.funs
 · rw [e]
   obtain ⟨m,hn,_⟩:=I.loc
   refine .cons (by rw [I.ok.kind];decide) hf hn ?_ I.funs
   exact Heap.get?_none_of_le (ydc I.ok.bsz I.ok.above)
def Inv.stkSub (I:Inv X pins σ H s):∀b∈frs X.stack,b∈X.env.locals::X.fs:=fun b hb=>by
 rcases I.ok.stk with e | ⟨e,hf⟩
 · rw [e] at hb;exact ybh _ hb
 · rw [e] at hb
   unfold frs at hb
   rw [ydn,hf] at hb
   exact hb
def Inv.stkFree (I:Inv X pins σ H s):∀b∈frs X.stack,H b=none:=fun b hb=>by
 rcases ybg.mp (I.stkSub b hb) with e | hb
 · rw [e];exact I.free
 · obtain ⟨_,o,ho,_⟩:=I.ok.funs.mem hb
   exact I.base.free b o ho (I.ok.frf b hb) fun z=>I.ok.exfs b z hb
def Inv.step {g':Array GenState} {t':Nat} {d':Drawn} {ch:List Addr} (I:Inv X pins σ H s)
   (hch:∀b∈ch,(b∈X.ex∨X.s₀.heap.objs.size≤b)∧b≠X.env.locals∧(∀x c,X.env.cells.lookup x=some c→c≠b)∧∀p∈X.pn++pins,p.1≠b)
   (keep:∀b o,b≠X.env.locals→b∉X.fs→b∉ch→s.heap.get? b=some o→H b=none→h'.get? b=some o)
   (slot:∀b o,b≠X.env.locals→b∈X.fs→b∉ch→s.heap.get? b=some o→H b=none→∃sl,h'.get? b=some { o with slots:=sl }) (free:∀b o,b∉ch→s.heap.get? b=some o→H b=none→H' b=none)
   (there:∀b o,b∉ch→s.heap.get? b=some o→∃o',h'.get? b=some o')
   (tups:∀b xs,H b=some (.tup xs)→H' b=some (.tup xs)) (frzs:∀b o u,H b=some (.frz o u)→H' b=some (.frz o u)) (tbls:∀b ps,H b=some (.tbl ps)→∃qjW,H' b=some (.tbl (ps++qjW)))
   (ns:∀m,s.heap.Ns X.env.locals m→h'.Ns X.env.locals m) (hok:HOk X.prog X.w H' h') (hg:AllBare g') :
   Inv X pins σ H' { s with heap:=h',gens:=g',drawn:=d',toks:=t' }:=by
 have neL:∀b o,X.s₀.heap.get? b=some o→b≠X.env.locals:=fun b o e=>ydx (yaf (ydv e) I.ok.above)
 have neC:∀b o,X.s₀.heap.get? b=some o→b∉X.ex→b∉ch:=fun b o e hx hb=>by
   rcases (hch b hb).1 with z | z
   · exact hx z
   · exact absurd (yaf (ydv e) z) (yen _)
 have cellK:∀x c,X.env.cells.lookup x=some c→∀v,s.heap.IsCell c v→h'.IsCell c v:=fun x c e v ⟨o,ho,hd⟩=>by
   have nch:c∉ch:=fun z=>(hch c z).2.2.1 x c e rfl
   by_cases hc:c∈X.fs
   · obtain ⟨sl,q⟩:=slot c o (I.cne x c e) hc nch ho (I.freeC x c e)
     exact ⟨_,q,hd⟩
   · exact ⟨o,keep c o (I.cne x c e) hc nch ho (I.freeC x c e),hd⟩
 refine ⟨I.ok,I.os,hg,⟨fun b o e n hb hx=>?_,fun b o e n hb hx=>?_,fun b o e n hx=>?_,fun b o e hx=>?_,fun b xs e=>tups b xs (I.base.tups b xs e),fun b o xs e=>frzs b o xs (I.base.frzs b o xs e),fun b ps e=>?_⟩,?_,fun x c e=>?_,?_,fun x c e=>?_,fun p hp=>?_,hok,I.len⟩
 · exact keep b o (neL b o e) hb (neC b o e hx) (I.base.keep b o e n hb hx) (I.base.free b o e n hx)
 · obtain ⟨sl,e1⟩:=I.base.slot b o e n hb hx
   obtain ⟨sl',e2⟩:=slot b _ (neL b o e) hb (neC b o e hx) e1 (I.base.free b o e n hx)
   exact ⟨sl',e2⟩
 · obtain ⟨o',e1⟩:=I.base.there b o e hx
   exact free b o' (neC b o e hx) e1 (I.base.free b o e n hx)
 · obtain ⟨o',e1⟩:=I.base.there b o e hx
   exact there b o' (neC b o e hx) e1
 · obtain ⟨m1,e1⟩:=I.base.tbls b ps e
   obtain ⟨m2,e2⟩:=tbls b _ e1
   exact ⟨m1++m2,by rw [e2,yeo]⟩
 · obtain ⟨m,hn,hl⟩:=I.loc
   refine ⟨m,ns m hn,fun i x v e1 e2 e3=>?_⟩
   obtain ⟨u,r,l⟩:=hl i x v e1 e2 e3
   refine ⟨u,r,?_⟩
   rcases l with l | ⟨k,c,e,z⟩
   · exact .inl l
   · exact .inr ⟨k,c,e,cellK x c e _ z⟩
 · obtain ⟨v,z⟩:=I.cell x c e
   exact ⟨v,cellK x c e v z⟩
 · obtain ⟨m,⟨o,_,_,ho,_⟩,_⟩:=I.loc
   exact free _ o (fun z=>(hch _ z).2.1 rfl) ho I.free
 · obtain ⟨v,o,ho,hd⟩:=I.cell x c e
   exact free c o (fun z=>(hch c z).2.2.1 x c e rfl) ho (I.freeC x c e)
 · obtain ⟨e,n,ne,nf,d⟩:=I.pin p hp
   have nch:p.1∉ch:=fun z=>(hch p.1 z).2.2.2 p hp rfl
   exact ⟨keep p.1 p.2 ne nf nch e n,free p.1 p.2 nch e n,ne,nf,d⟩
def Inv.un {t':Nat} (I:Inv X pins σ H s) (u:Un X.fs [] H H' s.heap h') (hok:HOk X.prog X.w H' h'):Inv X pins σ H' { s with heap:=h',toks:=t' }:=by
 obtain ⟨m,⟨o,es,ep,ho,r⟩,_⟩:=id I.loc
 obtain ⟨sl,hL⟩:=u.any ho I.free (by simp)
 exact I.step (g':=s.gens) (d':=s.drawn) (ch:=[]) (fun _ z=>nomatch z) (fun b o _ hb _ e n=>u.keep b o e n hb (by simp)) (fun b o _ hb _ e n=>u.slot b o e n hb (by simp)) (fun b o _ e n=>u.free b o e n (by simp)) (fun b o _ e=>u.there b o e (by simp)) u.tups u.frzs u.tbls (fun m' hm=>by
   obtain ⟨o',es',ep',ho',r'⟩:=hm
   rw [ho] at ho';cases ho'
   exact ⟨_,es',ep',hL,r'⟩) hok I.bare
def Inv.call {g':Array GenState} {t':Nat} {d':Drawn} {ch:List Addr} (I:Inv X pins σ H s) (u:Un (frs X.stack) ch H H' s.heap h') (hok:HOk X.prog X.w H' h') (hg:AllBare g')
   (hch:∀b∈ch,(b∈X.ex∨X.s₀.heap.objs.size≤b)∧b≠X.env.locals∧(∀x c,X.env.cells.lookup x=some c→c≠b)∧∀p∈X.pn++pins,p.1≠b) :
   Inv X pins σ H' { s with heap:=h',gens:=g',drawn:=d',toks:=t' }:=by
 obtain ⟨m,⟨o,es,ep,ho,r⟩,_⟩:=id I.loc
 obtain ⟨sl,hL⟩:=u.any ho I.free fun z=>(hch _ z).2.1 rfl
 exact I.step (ch:=ch) hch (fun b o hL hb hc e n=>u.keep b o e n (fun z=>(ybg.mp (I.stkSub b z)).elim hL hb) hc) (fun b o _ _ hc e n=>u.any e n hc) (fun b o hc e n=>u.free b o e n hc) (fun b o hc e=>u.there b o e hc) u.tups u.frzs u.tbls (fun m' hm=>by
   obtain ⟨o',es',ep',ho',r'⟩:=hm
   rw [ho] at ho';cases ho'
   exact ⟨_,es',ep',hL,r'⟩) hok hg
def Inv.turned {t':Nat} {it:Addr} (I:Inv X pins σ H s) (k:∀b o,b≠it→s.heap.get? b=some o→h'.get? b=some o) (hn:H it=none) (hL:it≠X.env.locals)
   (h1:it∈X.ex∨X.s₀.heap.objs.size≤it) (h2:∀x c,X.env.cells.lookup x=some c→c≠it) (h3:∀p∈X.pn++pins,p.1≠it):Inv X pins σ H { s with heap:=h',toks:=t' }:=by
 have nit:∀b u,H b=some u→b≠it:=fun b u e z=>by rw [z,hn] at e;cases e
 refine I.step (g':=s.gens) (d':=s.drawn) (ch:=[it]) (fun b hb=>?_) (fun b o _ _ hc e _=>k b o (fun z=>hc (by simp [z])) e) (fun b o _ _ hc e _=>⟨o.slots,k b o (fun z=>hc (by simp [z])) e⟩) (fun _ _ _ _ n=>n)
   (fun b o hc e=>⟨o,k b o (fun z=>hc (by simp [z])) e⟩) (fun _ _ e=>e) (fun _ _ _ e=>e) (fun b ps e=>⟨#[],by rw [e];simp⟩) (fun m hm=>?_) (fun b u e=>?_) I.bare
 · have e:b=it:=by simpa using hb
   subst e
   exact ⟨h1,hL,h2,h3⟩
 · obtain ⟨o,es,ep,ho,r⟩:=hm
   exact ⟨o,es,ep,k _ o (Ne.symm hL) ho,r⟩
 · refine (I.hok b u e).stay (fun c v hc q=>k c v ?_ q) (fun _ q=>q) fun _ _ q=>q
   rcases hc with z | z
   · rw [z];exact nit b u e
   · exact nit c _ z
def Inv.tok (I:Inv X pins σ H s) (t:Nat):Inv X pins σ H { s with toks:=t }:=I.un (h':=s.heap) (t':=t) Un.refl I.hok
def Inv.kept {t':Nat} (I:Inv X pins σ H s) (k:∀b u,s.heap.get? b=some u→h'.get? b=some u):Inv X pins σ H { s with heap:=h',toks:=t' }:=I.un (Un.kept k) (I.hok.kept k)
def Inv.laid {a:Addr} {o:HO} {t':Nat} (I:Inv X pins σ H s) (k:∀b u,s.heap.get? b=some u→h'.get? b=some u) (hp:s.heap.objs.size≤a) (new:qbl X.prog X.w (upd H a o) h' a o) :
 Inv X pins σ (upd H a o) { s with heap:=h',toks:=t' }:=I.un (Un.laid k hp (I.hok.fresh hp)) (I.hok.laid k hp new)
def Inv.write {x e:Addr} {o:HO} {t':Nat} (I:Inv X pins σ H s) (mu:Mut (H x)) (he:e=x∨H e=some (.own x)) (k:∀b u,b≠e→s.heap.get? b=some u→h'.get? b=some u) (heo:∃u,h'.get? e=some u)
 (new:qbl X.prog X.w (upd H x o) h' x o):Inv X pins σ (upd H x o) { s with heap:=h',toks:=t' }:=I.un (Un.write mu he k heo) (I.hok.write mu he k heo new)
def Inv.weak {σ':List (Option V)} (I:Inv X pins σ H s) (hl:σ'.length=σ.length) (w:∀(i:Nat) v,σ'[i]?=some (some v)→σ[i]?=some (some v)):Inv X pins σ' H s :=
 ⟨I.ok,I.os,I.bare,I.base,let ⟨m,hn,hl'⟩:=I.loc;⟨m,hn,fun i x v e1 e2 e3=>hl' i x v e1 (w i v e2) e3⟩,I.cell,I.free,I.freeC,I.pin,I.hok,hl.trans I.len⟩
def Inv.pins_of {pins':List (Addr×Obj)} (I:Inv X pins σ H s) (h:∀p∈pins',s.heap.get? p.1=some p.2∧H p.1=none∧p.1≠X.env.locals∧p.1∉X.fs∧∀v,p.2.data ≠ .cell v):Inv X pins' σ H s :=
 ⟨I.ok,I.os,I.bare,I.base,I.loc,I.cell,I.free,I.freeC,fun p hp=>(yaw.mp hp).elim (fun z=>I.pin p (yav _ z)) (h p),I.hok,I.len⟩
def qjl {N:List Str} (hN:N.Nodup) {i j:Nat} {x:Str} (a:N[i]?=some x) (b:N[j]?=some x):i=j:=by
 obtain ⟨h1,e1⟩:=ycl.mp a
 obtain ⟨h2,e2⟩:=ycl.mp b
 exact (yep hN).mp (e1.trans e2.symm)
def qlT {M:Model} {A:Around} {E:Value→Shared→Prop} {i:Nat} {x:Str} {v:V} {u:Value} {Q:Unit→Shared→Prop} (I:Inv X pins σ H s) (hN:X.N.Nodup) (hi:X.N[i]?=some x) (hx:Loc X.env.scope x) (r:qbb v u)
   (h:∀s',Inv X pins (σ.set i (some v)) H s'→(∃a,Heap.SameBut a s.heap s'.heap∧(a=X.env.locals∨X.env.cells.lookup x=some a))→Q () s') (hf:X.fn x=true∨X.env.scope.names.lookup x=some .local:=by first | exact .inl rfl | exact .inr rfl | assumption):wpAny M A (storeName X.env x u) Q E s:=by
 obtain ⟨m,hn,hl⟩:=id I.loc
 have hcls:(X.env.scope.kind == .class||(X.env.scope.kind == .module&&X.env.locals != X.env.globals))=false:=by rw [I.ok.kind];rfl
 have hiσ:i<σ.length:=by rw [I.len];exact (ycl.mp hi).1
 have cne:=I.cne
 have tracked:∀{a:Addr} {h':Heap},(∃o,s.heap.get? a=some o∧H a=none)→Heap.SameBut a s.heap h'→HOk X.prog X.w H h':=fun {a h'} ha hs b ob e=>by
   obtain ⟨_,_,hfree⟩:=ha
   refine (I.hok b ob e).stay (fun c w' hc q=>(hs.2 c ?_).trans q) (fun _ q=>q) fun _ _ q=>q
   rintro rfl
   rcases hc with rfl | hc
   · rw [hfree] at e;cases e
   · rw [hfree] at hc;cases hc
 rcases hx with hk | hk
 · refine wpAny_storeName_local hk hn (fun h' hn' hs=>?_) hcls
   obtain ⟨oL,_,_,hoL,_⟩:=id hn
   refine h _ ⟨I.ok,I.os,I.bare,⟨fun b o e n hb hx=>?_,fun b o e n hb hx=>?_,I.base.free,fun b o e hx=>?_,I.base.tups,I.base.frzs,I.base.tbls⟩,⟨_,hn',fun j y v' e1 e2 e3=>?_⟩,fun y c e=>?_,I.free,I.freeC,fun p hp=>?_,tracked ⟨oL,hoL,I.free⟩ hs,by simpa using I.len⟩ ⟨_,hs,.inl rfl⟩
   · exact (hs.2 b (ydx (yaf (ydv e) I.ok.above))).trans (I.base.keep b o e n hb hx)
   · obtain ⟨sl,e1⟩:=I.base.slot b o e n hb hx
     exact ⟨sl,(hs.2 b (ydx (yaf (ydv e) I.ok.above))).trans e1⟩
   · obtain ⟨o',e1⟩:=I.base.there b o e hx
     exact ⟨o',(hs.2 b (ydx (yaf (ydv e) I.ok.above))).trans e1⟩
   · by_cases hj:j=i
     · subst hj
       rw [hi] at e1;cases e1
       rw [yeq hiσ] at e2
       cases e2
       exact ⟨u,r,.inl ⟨hk,by simp⟩⟩
     · rw [yer (Ne.symm hj)] at e2
       obtain ⟨u',r',q⟩:=hl j y v' e1 e2 e3
       refine ⟨u',r',?_⟩
       rcases q with ⟨k,e⟩ | ⟨k,c,e,z⟩
       · refine .inl ⟨k,?_⟩
         have:y≠x:=fun e=>hj (qjl hN e1 (e▸hi))
         simp [this,e]
       · exact .inr ⟨k,c,e,z.sameBut hs (cne y c e)⟩
   · obtain ⟨w',z⟩:=I.cell y c e
     exact ⟨w',z.sameBut hs (cne y c e)⟩
   · obtain ⟨e,n,ne,nf,d⟩:=I.pin p hp
     exact ⟨(hs.2 p.1 ne).trans e,n,ne,nf,d⟩
 · have hfn:X.fn x=true:=by
     rcases hf with z | z
     · exact z
     · rw [z] at hk;cases hk
   obtain ⟨c,hc⟩:=I.ok.has x (.inl hk)
   obtain ⟨w',z⟩:=I.cell x c hc
   refine wpAny_storeName_cell I.ok.kind hk hc z (fun h' hc' hs=>?_)
   obtain ⟨oc,hoc,hocd⟩:=id z
   refine h { s with heap:=h' } ⟨I.ok,I.os,I.bare,⟨fun b o e n hb hx=>?_,fun b o e n hb hx=>?_,I.base.free,fun b o e hx=>?_,I.base.tups,I.base.frzs,I.base.tbls⟩,⟨m,hn.sameBut hs (Ne.symm (cne x c hc)),fun j y v' e1 e2 e3=>?_⟩,fun y c' e=>?_,I.free,I.freeC,fun p hp=>?_,tracked ⟨oc,hoc,I.freeC x c hc⟩ hs,by simpa using I.len⟩ ⟨c,hs,.inr hc⟩
   · exact (hs.2 b (ydx (yaf (ydv e) (I.ok.cab x c hfn hc)))).trans (I.base.keep b o e n hb hx)
   · obtain ⟨sl,e1⟩:=I.base.slot b o e n hb hx
     exact ⟨sl,(hs.2 b (ydx (yaf (ydv e) (I.ok.cab x c hfn hc)))).trans e1⟩
   · obtain ⟨o',e1⟩:=I.base.there b o e hx
     exact ⟨o',(hs.2 b (ydx (yaf (ydv e) (I.ok.cab x c hfn hc)))).trans e1⟩
   · by_cases hj:j=i
     · subst hj
       rw [hi] at e1;cases e1
       rw [yeq hiσ] at e2
       cases e2
       exact ⟨u,r,.inr ⟨.inl hk,c,hc,hc'⟩⟩
     · rw [yer (Ne.symm hj)] at e2
       obtain ⟨u',r',q⟩:=hl j y v' e1 e2 e3
       refine ⟨u',r',?_⟩
       rcases q with q | ⟨k,c',e,z'⟩
       · exact .inl q
       · refine .inr ⟨k,c',e,z'.sameBut hs ?_⟩
         rintro rfl
         exact hj (qjl hN e1 (I.ok.inj _ _ _ e hc▸hi))
   · by_cases hcc:c'=c
     · subst hcc;exact ⟨_,hc'⟩
     · obtain ⟨w2,z2⟩:=I.cell y c' e
       exact ⟨w2,z2.sameBut hs hcc⟩
   · obtain ⟨e,n,ne,nf,d⟩:=I.pin p hp
     refine ⟨(hs.2 p.1 ?_).trans e,n,ne,nf,d⟩
     intro q
     rw [q,hoc] at e
     have q':oc=p.2:=Option.some.inj e
     exact d w' (by rw [←q'];exact hocd)
def qg7 {M:Model} {A:Around} {E:Value→Shared→Prop} {i:Nat} {x:Str} {v:V} {u:Value} {Q:Unit→Shared→Prop} (I:Inv X pins σ H s) (hN:X.N.Nodup) (hi:X.N[i]?=some x) (hx:Loc X.env.scope x) (r:qbb v u)
   (h:∀s',Inv X pins (σ.set i (some v)) H s'→Q () s') (hf:X.fn x=true∨X.env.scope.names.lookup x=some .local:=by first | exact .inl rfl | exact .inr rfl | assumption):wpAny M A (storeName X.env x u) Q E s :=
 qlT I hN hi hx r (fun s' I' _=>h s' I') hf
def Inv.call' {s':Shared} {ch:List Addr} (I:Inv X pins σ H s) (ho:s'.os=s.os) (u:Un (frs X.stack) ch H H' s.heap s'.heap) (hok:HOk X.prog X.w H' s'.heap) (hg:AllBare s'.gens)
   (hch:∀b∈ch,(b∈X.ex∨X.s₀.heap.objs.size≤b)∧b≠X.env.locals∧(∀x c,X.env.cells.lookup x=some c→c≠b)∧∀p∈X.pn++pins,p.1≠b):Inv X pins σ H' s':=by
 obtain ⟨h',g',d',t',o'⟩:=s'
 have e:o'=s.os:=ho
 subst e
 exact I.call (g':=g') (t':=t') (d':=d') u hok hg hch
end
abbrev XK:=Value→Option Addr→Hp→Prop
abbrev St:=List (Option V)
abbrev VK:=V→Hp→Prop
abbrev TE:=St→Hp→VK→Prop
abbrev TT:=St→Hp→(Bool→Hp→Prop)→Prop
abbrev TA:=St→Hp→(List V→Hp→Prop)→Prop
structure qf2 where
 nx:St→Hp→Prop
 rt:VK
 bk:St→Hp→Prop:=fun _ _=>False
 ct:St→Hp→Prop:=fun _ _=>False
abbrev TS:=qf2→St→Hp→Prop
def EP (X:Cx) (pins:List (Addr×Obj)) (σ:St) (Q:VK) (u:Value) (s':Shared):Prop:=∃v H',Inv X pins σ H' s'∧qbb v u∧Q v H'
def TP (X:Cx) (pins:List (Addr×Obj)) (σ:St) (Q:Bool→Hp→Prop) (b:Bool) (s':Shared):Prop:=∃H',Inv X pins σ H' s'∧Q b H'
def AP (X:Cx) (pins:List (Addr×Obj)) (σ:St) (Q:List V→Hp→Prop) (us:List Value) (s':Shared):Prop:=∃vs H',Inv X pins σ H' s'∧qaV vs us∧Q vs H'
def SP (X:Cx) (pins:List (Addr×Obj)) (D:qf2) (f:Flow) (s':Shared):Prop :=
 match f with
 | .next=>∃σ' H',Inv X pins σ' H' s'∧D.nx σ' H'
 | .brk=>∃σ' H',Inv X pins σ' H' s'∧D.bk σ' H'
 | .cont=>∃σ' H',Inv X pins σ' H' s'∧D.ct σ' H'
 | .ret u=>∃v σ' H',Inv X pins σ' H' s'∧qbb v u∧D.rt v H'
def PE (X:Cx) (e:Expr) (t:TE):Prop :=
 ∀(pins:List (Addr×Obj)) (s:Shared) (σ:St) (H:Hp) (Q:VK),Inv X pins σ H s→t σ H Q→wpAny (model X.prog X.w) X.A (eval e X.env) (EP X pins σ Q) X.xe s
def PT (X:Cx) (e:Expr) (t:TT):Prop :=
 ∀(pins:List (Addr×Obj)) (s:Shared) (σ:St) (H:Hp) (Q:Bool→Hp→Prop),Inv X pins σ H s→t σ H Q→wpAny (model X.prog X.w) X.A (isTrue e X.env (eval e X.env)) (TP X pins σ Q) X.xe s
def PW (X:Cx) (e:Expr) (t:TT):Prop :=
 ∀(whole:Sem Value) (pins:List (Addr×Obj)) (s:Shared) (σ:St) (H:Hp) (Q:Bool→Hp→Prop),Inv X pins σ H s→t σ H Q→wpAny (model X.prog X.w) X.A (isTrue e X.env whole) (TP X pins σ Q) X.xe s
def PW.pt {X:Cx} {e:Expr} {t:TT} (h:PW X e t):PT X e t:=h _
def PA (X:Cx) (es:List Expr) (t:TA):Prop :=
 ∀(pos:Pos) (pins:List (Addr×Obj)) (s:Shared) (σ:St) (H:Hp) (Q:List V→Hp→Prop),Inv X pins σ H s→t σ H Q→wpAny (model X.prog X.w) X.A (spliced (backTo pos (starEach es X.env))) (AP X pins σ Q) X.xe s
def PS (X:Cx) (st:Stmt) (t:TS):Prop :=
 ∀(pins:List (Addr×Obj)) (s:Shared) (σ:St) (H:Hp) (D:qf2),Inv X pins σ H s→t D σ H→wpAny (model X.prog X.w) X.A (exec st X.env) (SP X pins D) X.xe s
def PSs (X:Cx) (st:List Stmt) (t:TS):Prop :=
 ∀(pins:List (Addr×Obj)) (s:Shared) (σ:St) (H:Hp) (D:qf2),Inv X pins σ H s→t D σ H→wpAny (model X.prog X.w) X.A (execs st X.env) (SP X pins D) X.xe s
def thn {α:Type} {t:Sem α} {Q Q':α→Shared→Prop} {M:Model} {A:Around} {E:Value→Shared→Prop} {s:Shared} (h:wpAny M A t Q E s) (hQ:∀a s,Q a s→Q' a s):wpAny M A t Q' E s:=wpAny_mono h hQ fun _ _ x=>x
end L2
namespace L2
open PySem PySem.Spec PyProof.Rows
section
variable {X:Cx}
def bin {a b:Expr} {ta tb:TE} (ha:PE X a ta) (hb:PE X b tb) {pins:List (Addr×Obj)} {s:Shared} {σ:St} {H:Hp} {R:V→V→Hp→Prop} (I:Inv X pins σ H s) (h:ta σ H fun x H1=>tb σ H1 fun y H2=>R x y H2)
   {α:Type} {Q:α→Shared→Prop} {f:Value→Value→Sem α}
   (hf:∀v u s2 x y H2,Inv X pins σ H2 s2→qbb x v→qbb y u→R x y H2→wpAny (model X.prog X.w) X.A (f v u) Q X.xe s2) :
   wpAny (model X.prog X.w) X.A (eval a X.env) (fun v s₁=>wpAny (model X.prog X.w) X.A (eval b X.env) (fun u s₂=>wpAny (model X.prog X.w) X.A (f v u) Q X.xe s₂) X.xe s₁) X.xe s:=by
 refine thn (ha pins s σ H _ I h) fun v s1 ⟨x,H1,I1,r1,q1⟩=>?_
 refine thn (hb pins s1 σ H1 _ I1 q1) fun u s2 ⟨y,H2,I2,r2,q2⟩=>?_
 exact hf v u s2 x y H2 I2 r1 r2 q2
def qtJ (i:Nat):TE:=fun σ H Q=>∃v,σ[i]?=some (some v)∧Q v H
def tC (v:V):TE:=fun _ H Q=>Q v H
def qsS {i:Nat} {x:Str} {pos:Pos} (hN:X.N[i]?=some x) (hv:Vis X.env.scope x) (hd:(x==("__debug__" : Str))=false:=by decide) (hcd:(x==("__classdict__" : Str))=false:=by decide):PE X (.Name x pos) (qtJ i):=by
 intro pins s σ H Q I h
 obtain ⟨v,e,h⟩:=h
 obtain ⟨m,hn,hl⟩:=I.loc
 obtain ⟨u,r,l⟩:=hl i x v hN e hv
 have fin:EP X pins σ Q u s:=⟨v,H,I,r,h⟩
 rcases l with ⟨hk,hm⟩ | ⟨hk,c,hc,hcell⟩
 · exact wpAny_Name (wpAny_loadName_local I.ok.kind hk hn hm fin) hd
 · rcases hk with hk | hk
   · exact wpAny_Name (wpAny_loadName_cell I.ok.kind hk hc hcell fin) hd
   · exact wpAny_Name (wpAny_loadName_free I.ok.kind hk hc hcell fin hcd) hd
def qae {i j pos}:PE X (.Constant (.int i) j pos) (tC (.int i)):=fun _ _ _ H _ I h=>wpAny_Constant_int ⟨.int i,H,I.tok _,⟨_,rfl⟩,h⟩
def qkr {b j pos}:PE X (.Constant (.bool b) j pos) (tC (.bl b)):=fun _ _ _ H _ I h=>Constant_bool ⟨.bl b,H,I,rfl,h⟩
def qbJ {j pos}:PE X (.Constant .none j pos) (tC .non):=fun _ _ _ H _ I h=>Constant_none ⟨.non,H,I,rfl,h⟩
def qaj {x j pos}:PE X (.Constant (.str x) j pos) (tC (.str x)):=fun _ _ _ H _ I h=>Calls.Constant_str ⟨.str x,H,I.tok _,⟨_,rfl⟩,h⟩
def Gl (X:Cx) (x:Str):Prop:=X.env.kindOf x=some .globalImplicit
def qi7 {E:Value→Shared→Prop} {pins:List (Addr×Obj)} {s:Shared} {σ:St} {H:Hp} {x:Str} {u:Value} {pos:Pos} {Q:Value→Shared→Prop} (I:Inv X pins σ H s) (hg:Gl X x) (hm:X.mg x=some u) (h:Q u s)
   (hd:(x==("__debug__" : Str))=false:=by decide):wpAny (model X.prog X.w) X.A (eval (.Name x pos) X.env) Q E s :=
 Calls.Name_function_global I.ok.kind hg (Calls.loadGlobal_global (by rw [I.ok.glob];exact I.mod.glob.keeps I.bk) hm h) hd
def qda {E:Value→Shared→Prop} {pins:List (Addr×Obj)} {s:Shared} {σ:St} {H:Hp} {x:Str} {u:Value} {pos:Pos} {Q:Value→Shared→Prop} (I:Inv X pins σ H s) (hg:Gl X x) (hm:X.mg x=none) (hv:bootBuiltins x=some u) (h:Q u s)
   (hn:x ≠ "__name__" := by decide) (hd:(x==("__debug__" : Str))=false:=by decide):wpAny (model X.prog X.w) X.A (eval (.Name x pos) X.env) Q E s:=by
 obtain ⟨mb,h1,h2⟩:=I.mod.blt
 exact Calls.Name_function_global I.ok.kind hg (Calls.loadGlobal_builtin (by rw [I.ok.glob];exact I.mod.glob.keeps I.bk) hm (by rw [I.ok.blt];exact h1.keeps I.bk) ((h2 x hn).trans hv) h) hd
def qd8 {x:Str} {v:V} {u:Value} {pos:Pos} (hg:Gl X x) (hm:X.mg x=some u) (r:qbb v u) (hd:(x==("__debug__" : Str))=false:=by decide):PE X (.Name x pos) (tC v) :=
 fun _ _ _ H _ I h=>qi7 I hg hm ⟨v,H,I,r,h⟩ hd
def qed {x:Str} {v:V} {u:Value} {pos:Pos} (hg:Gl X x) (hm:X.mg x=none) (hv:bootBuiltins x=some u) (r:qbb v u) (hn:x ≠ "__name__" := by decide) (hd:(x==("__debug__" : Str))=false:=by decide):PE X (.Name x pos) (tC v) :=
 fun _ _ _ H _ I h=>qda I hg hm hv ⟨v,H,I,r,h⟩ hn hd
variable {a b:Expr} {ta tb:TE} {pos:Pos}
def PC (X:Cx) (op:CmpOp) (a b:Expr) (t:TE):Prop :=
 ∀(pins:List (Addr×Obj)) (s:Shared) (σ:St) (H:Hp) (Q:VK),Inv X pins σ H s→t σ H Q →
   wpAny (model X.prog X.w) X.A (eval a X.env) (fun v s₁=>wpAny (model X.prog X.w) X.A (eval b X.env) (fun u s₂=>wpAny (model X.prog X.w) X.A (compareOp op v u) (EP X pins σ Q) X.xe s₂) X.xe s₁) X.xe s
def qnS (b:Expr) {op:CmpOp} (h:op ≠ .In) (h2:op ≠ .NotIn):behindInMarks op b=false:=by
 have e1:(op==CmpOp.In)=false:=by cases op<;>first | rfl | exact absurd rfl h
 have e2:(op==CmpOp.NotIn)=false:=by cases op<;>first | rfl | exact absurd rfl h2
 cases b<;>simp [behindInMarks,e1,e2]
def tB (t:TE):TT:=fun σ H Q=>t σ H fun x H1=>∃c,x = .bl c∧Q c H1
def qls {op:CmpOp} {t:TE} (h:PC X op a b t) (h1:behindInMarks op b=false:=by first | exact qnS _ (by decide) (by decide) | rfl):PT X (.Compare a [op] [b] pos) (tB t):=by
 intro pins s σ H Q I hw
 refine wpAny_isTrue_Compare1 (thn (h pins s σ H _ I hw) fun v s1 h1=>thn h1 fun u s2 h2=>thn h2 fun c s3 ⟨x,H1,I1,r1,q1⟩=>?_) h1
 obtain ⟨d,rfl,q⟩:=q1
 cases r1
 exact wpAny_truthy_bool ⟨H1,I1,q⟩
def qbg {e:Expr} {t:TE} (h:PE X e t) (he:∀whole,isTrue e X.env whole=(do let v ←whole;standAt e.pos;holding [v] (truthy v)):=by intro _;rfl):PT X e (tB t):=by
 intro pins s σ H Q I hw
 refine isTrue_plain (thn (h pins s σ H _ I hw) fun v s1 ⟨x,H1,I1,r1,q1⟩=>?_) (he _)
 obtain ⟨d,rfl,q⟩:=q1
 cases r1
 exact wpAny_truthy_bool ⟨H1,I1,q⟩
variable {tA tB':TT} {qiF:List Expr}
def qus (t u:TT):TT:=fun σ H Q=>t σ H fun c H1=>if c=true then u σ H1 Q else Q false H1
def tOr (t u:TT):TT:=fun σ H Q=>t σ H fun c H1=>if c=true then Q true H1 else u σ H1 Q
def qux (t:TT):TT:=fun σ H Q=>t σ H fun c H1=>Q (!c) H1
def qdy (ha:PT X a tA):PW X (.BoolOp .And [a] pos) tA:=by
 intro wh pins s σ H Q I h
 refine isTrue_and (thn (ha pins s σ H Q I h) fun c s1 e=>?_)
 cases c with
 | true=>exact isTrue_and_nil e
 | false=>exact e
def qh4 (ha:PT X a tA):PW X (.BoolOp .Or [a] pos) tA:=by
 intro wh pins s σ H Q I h
 refine isTrue_or (thn (ha pins s σ H Q I h) fun c s1 e=>?_)
 cases c with
 | false=>exact isTrue_or_nil e
 | true=>exact e
def qey (ha:PT X a tA) (hb:PW X (.BoolOp .And (b::qiF) pos) tB'):PW X (.BoolOp .And (a::b::qiF) pos) (qus tA tB'):=by
 intro wh pins s σ H Q I h
 refine isTrue_and (thn (ha pins s σ H _ I h) fun c s1 ⟨H1,I1,q1⟩=>?_)
 cases c with
 | true=>exact hb wh pins s1 σ H1 Q I1 q1
 | false=>exact ⟨H1,I1,q1⟩
def qll (ha:PT X a tA) (hb:PW X (.BoolOp .Or (b::qiF) pos) tB'):PW X (.BoolOp .Or (a::b::qiF) pos) (tOr tA tB'):=by
 intro wh pins s σ H Q I h
 refine isTrue_or (thn (ha pins s σ H _ I h) fun c s1 ⟨H1,I1,q1⟩=>?_)
 cases c with
 | true=>exact ⟨H1,I1,q1⟩
 | false=>exact hb wh pins s1 σ H1 Q I1 q1
def qbD (ha:PT X a tA):PT X (.UnaryOp .Not a pos) (qux tA):=by
 intro pins s σ H Q I h
 exact isTrue_not (ha pins s σ H (fun c H1=>Q (!c) H1) I h)
def qsu (ta tb:TE):TE:=fun σ H Q=>ta σ H fun x H1=>∃c,x = .bl c∧if c=true then tb σ H1 Q else Q (.bl false) H1
def qu0 (ta tb:TE):TE:=fun σ H Q=>ta σ H fun x H1=>∃c,x = .bl c∧if c=true then Q (.bl true) H1 else tb σ H1 Q
def qsD (ta:TE):TE:=fun σ H Q=>ta σ H fun x H1=>∃c,x = .bl c∧Q (.bl (!c)) H1
def qjE {op} {t:TE} (h:PE X a t):PE X (.BoolOp op [a] pos) t:=fun pins s σ H Q I hw=>BoolOp_one (h pins s σ H Q I hw)
def qjz (ha:PE X a ta) (hb:PE X (.BoolOp .And (b::qiF) pos) tb):PE X (.BoolOp .And (a::b::qiF) pos) (qsu ta tb):=by
 intro pins s σ H Q I h
 refine BoolOp_and (thn (ha pins s σ H _ I h) fun v s1 ⟨x,H1,I1,r1,q1⟩=>?_)
 obtain ⟨c,rfl,q1⟩:=q1
 cases r1
 refine wpAny_truthy_bool ?_
 cases c with
 | true=>exact hb pins s1 σ H1 Q I1 q1
 | false=>exact ⟨.bl false,H1,I1,rfl,q1⟩
def qs4 (ha:PE X a ta):PE X (.UnaryOp .Not a pos) (qsD ta):=by
 intro pins s σ H Q I h
 refine UnaryOp_ (thn (ha pins s σ H _ I h) fun v s1 ⟨x,H1,I1,r1,q1⟩=>?_)
 obtain ⟨c,rfl,q1⟩:=q1
 cases r1
 exact not_of (wpAny_truthy_bool ⟨.bl (!c),H1,I1,rfl,q1⟩)
def tIf (t:TT) (ta tb:TE):TE:=fun σ H Q=>t σ H fun c H1=>if c=true then ta σ H1 Q else tb σ H1 Q
def qj6 {c:Expr} (hc:PT X c tA) (ha:PE X a ta) (hb:PE X b tb):PE X (.IfExp c a b pos) (tIf tA ta tb):=by
 intro pins s σ H Q I h
 refine wpAny_IfExp (thn (hc pins s σ H _ I h) fun d s1 ⟨H1,I1,q1⟩=>?_)
 cases d with
 | true=>exact ha pins s1 σ H1 Q I1 q1
 | false=>exact hb pins s1 σ H1 Q I1 q1
end
end L2
namespace L2
open PySem PySem.Spec PyProof.Rows
def SqL (K:PySem.W.Frag) (H:Hp) (a:Addr) (xs:List V):Prop :=
 Rd H a (.lst xs) ∨
   ∃(o:Obj) (its:Array Value) (n:Nat),K.lookup a=some o∧o.cls = .type "list" ∧ o.dict=none∧o.data = .seq its n∧its.size≤sizeLine∧qaV xs its.toList
def SqT (K:PySem.W.Frag) (H:Hp) (a:Addr) (xs:List V):Prop :=
 Rd H a (.tup xs) ∨
   ∃(o:Obj) (its:Array Value) (n:Nat),K.lookup a=some o∧o.cls = .type "tuple" ∧ o.data = .seq its n∧its.size≤sizeLine∧qaV xs its.toList
def qu1:Value→Option V
 | .none=>some .non
 | .bool b=>some (.bl b)
 | .int i _=>some (.int i)
 | .str x _=>some (.str x)
 | .bytes b _=>some (.byt b)
 | .float b _=>some (.flt b)
 | .ref a=>some (.ref a)
 | .type n=>some (.ty n)
 | _=>none
def qbb.abs {x:V} {u:Value} (r:qbb x u):qu1 u=some x:=by
 cases x with
 | non=>cases r;rfl
 | bl _=>cases r;rfl
 | int _=>obtain ⟨t,rfl⟩:=r;rfl
 | str _=>obtain ⟨t,rfl⟩:=r;rfl
 | byt _=>obtain ⟨t,rfl⟩:=r;rfl
 | flt _=>obtain ⟨t,rfl⟩:=r;rfl
 | ref _=>cases r;rfl
 | ty _=>cases r;rfl
def qbb.inj {x y:V} {u:Value} (r:qbb x u) (q:qbb y u):x=y:=Option.some.inj (r.abs.symm.trans q.abs)
def qaV.inj:∀{xs ys:List V} {us:List Value},qaV xs us→qaV ys us→xs=ys
 | _,_,_,.nil,.nil=>rfl
 | _,_,_,.cons r t,.cons r' t'=>by rw [r.inj r',qaV.inj t t']
section
variable {X:Cx} {pins:List (Addr×Obj)} {σ:St} {H:Hp} {s:Shared} {a:Addr} {xs ys:List V}
def SqL.of {K:PySem.W.Frag} (h:H a=some (.lst xs)):SqL K H a xs := .inl (.inl h)
def SqT.of {K:PySem.W.Frag} (h:H a=some (.tup xs)):SqT K H a xs := .inl (.inl h)
def Inv.list (I:Inv X pins σ H s) (h:SqL X.K H a xs):∃its:List Value,qaV xs its∧PlainL s.heap a its.toArray∧xs.length≤sizeLine:=by
 rcases h with h | ⟨o,its,n,hk,hc,hd,hs,hz,r⟩
 · obtain ⟨z,its,n,r,e⟩:=h.ok I.hok
   exact ⟨its,r,⟨_,n,e,rfl,rfl,rfl⟩,z⟩
 · refine ⟨its.toList,r,⟨o,n,I.kIn a o hk,hc,hd,by simpa using hs⟩,?_⟩
   have e:=r.length
   simp only [ydh] at e
   omega
def Inv.tuple (I:Inv X pins σ H s) (h:SqT X.K H a xs):∃its:List Value,qaV xs its∧IsTup s.heap a its.toArray∧xs.length≤sizeLine:=by
 rcases h with h | ⟨o,its,n,hk,hc,hs,hz,r⟩
 · obtain ⟨z,its,r,p⟩:=h.ok I.hok
   exact ⟨its,r,p,z⟩
 · refine ⟨its.toList,r,⟨o,I.kIn a o hk,hc,n,by simpa using hs⟩,?_⟩
   have e:=r.length
   simp only [ydh] at e
   omega
def Inv.list_inj (I:Inv X pins σ H s) (h:SqL X.K H a xs) (h':SqL X.K H a ys):xs=ys:=by
 obtain ⟨its,r,⟨o,n,e,_,_,d⟩,_⟩:=I.list h
 obtain ⟨its',r',⟨o',n',e',_,_,d'⟩,_⟩:=I.list h'
 rw [e] at e';cases e'
 rw [d] at d'
 injection d' with d1 _
 have:its=its':=by simpa using congrArg Array.toList d1
 subst this
 exact r.inj r'
def Inv.tuple_inj (I:Inv X pins σ H s) (h:SqT X.K H a xs) (h':SqT X.K H a ys):xs=ys:=by
 obtain ⟨its,r,⟨o,e,_,n,d⟩,_⟩:=I.tuple h
 obtain ⟨its',r',⟨o',e',_,n',d'⟩,_⟩:=I.tuple h'
 rw [e] at e';cases e'
 rw [d] at d'
 injection d' with d1 _
 have:its=its':=by simpa using congrArg Array.toList d1
 subst this
 exact r.inj r'
end
abbrev Cx.wish (X:Cx) (E:Value→Shared→Prop):Cx:={ X with xe:=E }
abbrev Cx.nox (X:Cx):Cx:=X.wish fun _ _=>False
def Cx.Ok.wish {X:Cx} (ok:X.Ok) (E:Value→Shared→Prop):(X.wish E).Ok :=
 ⟨ok.mod,ok.kind,ok.glob,ok.blt,ok.above,ok.inj,ok.has,ok.cab,ok.hd,ok.frames,ok.stk,ok.exf,ok.bs,ok.bsz,ok.noex,ok.exfs,ok.funs,ok.frf⟩
def Cx.Ok.unwish {X:Cx} {E:Value→Shared→Prop} (ok:(X.wish E).Ok):X.Ok :=
 ⟨ok.mod,ok.kind,ok.glob,ok.blt,ok.above,ok.inj,ok.has,ok.cab,ok.hd,ok.frames,ok.stk,ok.exf,ok.bs,ok.bsz,ok.noex,ok.exfs,ok.funs,ok.frf⟩
section
variable {X:Cx} {pins:List (Addr×Obj)} {σ:St} {H:Hp} {s:Shared} {E:Value→Shared→Prop}
def Inv.wish (I:Inv X pins σ H s) (E:Value→Shared→Prop):Inv (X.wish E) pins σ H s:=⟨I.ok.wish E,I.os,I.bare,I.base,I.loc,I.cell,I.free,I.freeC,I.pin,I.hok,I.len⟩
def Inv.unwish (I:Inv (X.wish E) pins σ H s):Inv X pins σ H s:=⟨I.ok.unwish,I.os,I.bare,I.base,I.loc,I.cell,I.free,I.freeC,I.pin,I.hok,I.len⟩
def SP.unwish {D:qf2} {f:Flow} {s':Shared} (h:SP (X.wish E) pins D f s'):SP X pins D f s':=by
 cases f with
 | next=>obtain ⟨σ',H',I,q⟩:=h;exact ⟨σ',H',I.unwish,q⟩
 | brk=>obtain ⟨σ',H',I,q⟩:=h;exact ⟨σ',H',I.unwish,q⟩
 | cont=>obtain ⟨σ',H',I,q⟩:=h;exact ⟨σ',H',I.unwish,q⟩
 | ret u=>obtain ⟨v,σ',H',I,r,q⟩:=h;exact ⟨v,σ',H',I.unwish,r,q⟩
def PSs.nox {st:List Stmt} {t:TS} (h:PSs X.nox st t):PSs X st t:=fun pins s σ H D I hw =>
 wpAny_mono (h pins s σ H D (I.wish _) hw) (fun _ _ q=>q.unwish) fun _ _ z=>False.elim z
end
section
variable {X:Cx} {st:Stmt} {qiF:List Stmt} {t u:TS} {e:Expr} {te:TE} {pos:Pos}
def qlP:TS:=fun D σ H=>D.nx σ H
def qmS (t u:TS):TS:=fun D σ H=>t { D with nx:=u D } σ H
def qak:PSs X [] qlP:=fun _ _ σ H _ I h=>wpAny_execs_nil ⟨σ,H,I,h⟩
def qac (h1:PS X st t) (h2:PSs X qiF u):PSs X (st::qiF) (qmS t u):=by
 intro pins s σ H D I h
 refine wpAny_execs_cons (thn (h1 pins s σ H { D with nx:=u D } I h) fun f s1 q=>?_)
 cases f with
 | next =>
   obtain ⟨σ',H',I',q⟩:=q
   exact h2 pins s1 σ' H' D I' q
 | ret v=>exact q
 | brk=>exact q
 | cont=>exact q
def qad (h1:PS X st t):PSs X [st] t:=by
 intro pins s σ H D I h
 refine wpAny_execs_cons (thn (h1 pins s σ H D I h) fun f s1 q=>?_)
 cases f with
 | next=>exact wpAny_execs_nil q
 | ret v=>exact q
 | brk=>exact q
 | cont=>exact q
def Inv.quiet {pins:List (Addr×Obj)} {σ:St} {H:Hp} {s:Shared} (I:Inv X pins σ H s):interactive X.env=false:=by simp [interactive,I.ok.kind]
def qpI (te:TE):TS:=fun D σ H=>te σ H fun _ H1=>D.nx σ H1
def qb3 (he:PE X e te) (hs:swapsWith e none pos.line X.env=pure false:=by rfl):PS X (.Expr e pos) (qpI te):=by
 intro pins s σ H D I h
 exact wpAny_Expr_any (thn (he pins s σ H _ I h) fun v s1 ⟨x,H1,I1,r1,q1⟩=>⟨σ,H1,I1,q1⟩) I.quiet hs
def qtF (te:TE):TS:=fun D σ H=>te σ H D.rt
def qai (he:PE X e te):PS X (.Return (some e) pos) (qtF te):=by
 intro pins s σ H D I h
 exact wpAny_Return_some (thn (he pins s σ H _ I h) fun v s1 ⟨x,H1,I1,r1,q1⟩=>⟨x,σ,H1,I1,r1,q1⟩)
def quc:TS:=fun D _ H=>D.rt .non H
def qsb (c:TT) (t u:TS):TS:=fun D σ H=>c σ H fun b H1=>if b=true then t D σ H1 else u D σ H1
def qaB {c:Expr} {a b:List Stmt} {tc:TT} (hc:PT X c tc) (ha:PSs X a t) (hb:PSs X b u):PS X (.If c a b pos) (qsb tc t u):=by
 intro pins s σ H D I h
 refine wpAny_If (thn (hc pins s σ H _ I h) fun d s1 ⟨H1,I1,q1⟩=>?_)
 cases d with
 | true=>exact ha pins s1 σ H1 D I1 q1
 | false=>exact hb pins s1 σ H1 D I1 q1
def qpD:TS:=fun _ _ _=>False
def qa2:PS X st qpD:=fun _ _ _ _ _ _ h=>h.elim
end
abbrev TG:=V→St→Hp→(St→Hp→Prop)→Prop
abbrev TGs:=List V→St→Hp→(St→Hp→Prop)→Prop
def PG (X:Cx) (target:Expr) (t:TG):Prop :=
 ∀(pins:List (Addr×Obj)) (s:Shared) (σ:St) (H:Hp) (v:V) (u:Value) (Q:St→Hp→Prop),Inv X pins σ H s→qbb v u→t v σ H Q →
   wpAny (model X.prog X.w) X.A (assign target X.env u) (fun _ s'=>∃σ' H',Inv X pins σ' H' s'∧Q σ' H') X.xe s
def PGs (X:Cx) (ts:List Expr) (t:TGs):Prop :=
 ∀(pins:List (Addr×Obj)) (s:Shared) (σ:St) (H:Hp) (vs:List V) (us:List Value) (Q:St→Hp→Prop),Inv X pins σ H s→qaV vs us→t vs σ H Q →
   wpAny (model X.prog X.w) X.A (assignInOrder ((assignEach ts X.env).map (·.2)) us) (fun _ s'=>∃σ' H',Inv X pins σ' H' s'∧Q σ' H') X.xe s
abbrev qt4:=V→V→V→Hp→(Hp→Prop)→Prop
def quv (X:Cx) (t:qt4):Prop :=
 ∀(pins:List (Addr×Obj)) (s:Shared) (σ:St) (H:Hp) (o i v:V) (ov iv u:Value) (Q:Hp→Prop),Inv X pins σ H s→qbb o ov→qbb i iv→qbb v u→t o i v H Q →
   wpAny (model X.prog X.w) X.A (setItem ov iv u) (fun _ s'=>∃H',Inv X pins σ H' s'∧Q H') X.xe s
section
variable {X:Cx} {pos:Pos}
def qhp (i:Nat):TG:=fun v σ H Q=>Q (σ.set i (some v)) H
def qan {i:Nat} {x:Str} (hN:X.N.Nodup) (hi:X.N[i]?=some x) (hx:Loc X.env.scope x) (hf:X.fn x=true∨X.env.scope.names.lookup x=some .local:=by first | exact .inl rfl | exact .inr rfl | assumption):PG X (.Name x pos) (qhp i):=by
 intro pins s σ H v u Q I r h
 exact wpAny_assign_Name (qg7 I hN hi hx r (fun s' I'=>⟨_,H,I',h⟩) hf)
def qtZ:TGs:=fun vs σ H Q=>vs=[]∧Q σ H
def qox (t:TG) (u:TGs):TGs:=fun vs σ H Q=>∃v r,vs=v::r∧t v σ H fun σ' H'=>u r σ' H' Q
def qel:PGs X [] qtZ:=by
 intro pins s σ H vs us Q I r h
 obtain ⟨e,h⟩:=h
 subst e
 cases r
 exact assignInOrder_nil ⟨σ,H,I,h⟩
def qbd {e:Expr} {es:List Expr} {t:TG} {u:TGs} (h1:PG X e t) (h2:PGs X es u)
   (hs:(assignEach (e::es) X.env).map (·.2)=assign e X.env::(assignEach es X.env).map (·.2):=by rfl):PGs X (e::es) (qox t u):=by
 intro pins s σ H vs us Q I r h
 obtain ⟨v,vr,e1,h⟩:=h
 subst e1
 cases r with
 | cons r rr =>
   rw [hs]
   refine assignInOrder_cons (thn (h1 pins s σ H _ _ _ I r h) fun _ s1 ⟨σ1,H1,I1,q1⟩=>?_)
   exact h2 pins s1 σ1 H1 _ _ Q I1 rr q1
def qt0 (K:PySem.W.Frag) (n:Nat) (t:TGs):TG:=fun v σ H Q=>∃a xs,v = .ref a∧SqT K H a xs∧xs.length=n∧t xs σ H Q
def qgd {es:List Expr} {k:Nat} {t:TGs} {n:Nat} (hc:X.calm=true) (h:PGs X es t)
   (hn:(assignEach es X.env).length=n:=by rfl) (hst:(assignEach es X.env).findIdx? (·.1)=none:=by rfl):PG X (.Tuple es k pos) (qt0 X.K n t):=by
 intro pins s σ H v u Q I r hw
 obtain ⟨a,xs,e1,hq,hl,hw⟩:=hw
 subst e1
 cases r
 obtain ⟨its,rv,ht,hz⟩:=I.tuple hq
 refine assign_Tuple_tuple (I.ok.hd hc) ht (by simp [hn,←hl,rv.length]) hst fun h' hx=>?_
 have I1:Inv X pins σ H { s with heap:=h' }:=I.kept (t':=s.toks) fun b o e=>hx b o (ydx (ydv e)) e
 exact h pins _ σ H xs _ Q I1 (by simpa using rv) hw
def quI (to ti:TE) (t:qt4):TG:=fun v σ H Q=>to σ H fun o H1=>ti σ H1 fun i H2=>t o i v H2 fun H3=>Q σ H3
def qpi {o i:Expr} {to ti:TE} {t:qt4} (ho:PE X o to) (hi:PE X i ti) (hs:quv X t)
   (ha:∀v,assign (.Subscript o i pos) X.env v=(do
     let ov ←holding [v] (eval o X.env)
     let iv ←holding [v,ov] (eval i X.env)
     standAt pos
     holding [v,ov,iv] (setItem ov iv v)
     release [v,ov,iv] []):=by intro _;rfl):PG X (.Subscript o i pos) (quI to ti t):=by
 intro pins s σ H v u Q I r h
 rw [ha]
 refine wpAny_bind (wpAny_holding (thn (ho pins s σ H _ I h) fun ov s1 ⟨x,H1,I1,r1,q1⟩=>?_))
 refine wpAny_bind (wpAny_holding (thn (hi pins s1 σ H1 _ I1 q1) fun iv s2 ⟨y,H2,I2,r2,q2⟩=>?_))
 refine wpAny_bind (wpAny_standAt (wpAny_bind (wpAny_holding (thn (hs pins s2 σ H2 x y v ov iv u _ I2 r1 r2 r q2) fun _ s3 ⟨H3,I3,q3⟩=>?_))))
 exact wpAny_release ⟨σ,H3,I3,q3⟩
def qru (te:TE) (g:TG):TS:=fun D σ H=>te σ H fun x H1=>g x σ H1 D.nx
def qkM {tg e:Expr} {te:TE} {g:TG} (he:PE X e te) (hg:PG X tg g) (hs:swapsWithSole [tg] e pos.line X.env=pure false:=by rfl) (hw:swappedStores [tg] e X.env=pure none:=by rfl)
   (h1:(assignEach [tg] X.env).map (·.2)=[assign tg X.env]:=by rfl):PS X (.Assign [tg] e pos) (qru te g):=by
 intro pins s σ H D I h
 refine wpAny_Assign_stores (thn (he pins s σ H _ I h) fun v s1 ⟨x,H1,I1,r1,q1⟩=>?_) hs hw
 rw [h1]
 exact thn (hg pins s1 σ H1 x v _ I1 r1 q1) fun _ s2 q=>q
def qat {i:Nat} {x:Str} {e:Expr} {te:TE} {pos':Pos} (hN:X.N.Nodup) (hi:X.N[i]?=some x) (hx:Loc X.env.scope x) (he:PE X e te) (hs:swapsWith e (some (.Name x pos')) pos.line X.env=pure false:=by rfl) (hf:X.fn x=true∨X.env.scope.names.lookup x=some .local:=by first | exact .inl rfl | exact .inr rfl | assumption) :
   PS X (.Assign [.Name x pos'] e pos) (qru te (qhp i)):=by
 intro pins s σ H D I h
 refine wpAny_Assign_Name (thn (he pins s σ H _ I h) fun v s1 ⟨y,H1,I1,r1,q1⟩=>?_) hs
 exact qg7 I1 hN hi hx r1 (fun s2 I2=>⟨_,H1,I2,q1⟩) hf
def qu6 (i j:Nat) (ta:TA):TS:=fun D σ H=>ta σ H fun vs H1=>∃v w,vs=[v,w]∧D.nx ((σ.set i (some v)).set j (some w)) H1
end
section
variable {X:Cx} {pos:Pos}
def qjK (c:TT) (tb:TS):TS:=fun D σ H=>∃W:Nat→St→Hp→Prop,(∃m,W m σ H)∧∀m σ H,W m σ H →
 c σ H fun b H1=>if b=true then ∃N:St→Hp→Prop,(∀σ' H',N σ' H'→∃m',m'<m∧W m' σ' H')∧tb { D with nx:=N,ct:=N,bk:=D.nx } σ H1 else D.nx σ H1
def qoc {c:Expr} {body:List Stmt} {tc:TT} {tb:TS} (hp:PassesOwn (model X.prog X.w) X.A X.env X.xe) (hc:PT X c tc) (hb:PSs X body tb):PS X (.While c body [] pos) (qjK tc tb):=by
 intro pins s σ H D I h
 obtain ⟨W,⟨m0,w0⟩,turn⟩:=h
 refine wpAny_While (codeAny_whileLoop (fun n s'=>∃σ' H',Inv X pins σ' H' s'∧W n σ' H') ?_ m0 ⟨σ,H,I,w0⟩)
 rintro n s1 ⟨σ1,H1,I1,w1⟩
 refine wpAny_passesOwn hp (thn (hc pins s1 σ1 H1 _ I1 (turn n σ1 H1 w1)) fun b s2 ⟨H2,I2,q2⟩=>?_)
 cases b with
 | true =>
   obtain ⟨N,hN,q2⟩:=q2
   rw [if_pos rfl]
   refine wpAny_passesOwn hp (thn (hb pins s2 σ1 H2 _ I2 q2) fun f s3 q3=>?_)
   cases f with
   | next =>
     obtain ⟨σ3,H3,I3,n3⟩:=q3
     obtain ⟨m',hm,w3⟩:=hN σ3 H3 n3
     exact ⟨m',hm,σ3,H3,I3,w3⟩
   | cont =>
     obtain ⟨σ3,H3,I3,n3⟩:=q3
     obtain ⟨m',hm,w3⟩:=hN σ3 H3 n3
     exact ⟨m',hm,σ3,H3,I3,w3⟩
   | brk=>exact q3
   | ret v=>exact q3
 | false =>
   rw [if_neg yet]
   exact wpAny_execs_nil ⟨σ1,H2,I2,q2⟩
end
structure It where
 go:Nat→Hp→Prop
 yld:Nat→Hp→V→Hp→Prop
 stop:Nat→Hp→Prop
def qj4 (X:Cx) (pins:List (Addr×Obj)) (H:Hp) (b:Addr):Prop :=
 H b=none∧b≠X.env.locals∧b∉X.fs∧(b∈X.ex∨X.s₀.heap.objs.size≤b)∧(∀x c,X.env.cells.lookup x=some c→c≠b)∧∀p∈X.pn++pins,p.1≠b
def Inv.fpOk {X:Cx} {pins:List (Addr×Obj)} {σ:St} {H H':Hp} {s:Shared} {b:Addr} (I:Inv X pins σ H s) (hb:s.heap.objs.size≤b) (hn:H' b=none):qj4 X pins H' b:=by
 refine ⟨hn,yea (yaf I.lt hb),I.nofs hb,.inr (ydc I.sz hb),fun x c e z=>?_,fun p hp z=>?_⟩
 · obtain ⟨v,q⟩:=I.cell x c e
   exact absurd (yaf q.lt (by rw [z];exact hb)) (yen _)
 · exact absurd (yaf (ydv (I.pin p hp).1) (by rw [z];exact hb)) (yen _)
structure qnh (P:Program) (w:World) (K:PySem.W.Frag) (tg:Expr) (J:It) (fp:List Addr) (it:Addr) (tn:Nat→Heap→Prop):Prop where
 mem:it∈fp
 obj:∀i h,tn i h→∀b∈fp,∃o,h.get? b=some o∧∀v,o.data ≠ .cell v
 keep:∀i h h',tn i h→(∀b∈fp,∀o,h.get? b=some o→h'.get? b=some o)→tn i h'
 item:∀(X:Cx),X.prog=P→X.w=w→X.K=K→X.calm=true→∀(i:Nat) (pins:List (Addr×Obj)) (s:Shared) (σ:St) (H:Hp) (E:Value→Shared→Prop),Inv X pins σ H s→(∀b∈fp,qj4 X pins H b)→tn i s.heap→J.go i H →
   wpAny (model P w) X.A (pyNext (.ref it)) (fun r s1=>∃u,r=some u ∧
     wpAny (model P w) X.A (letOwnedTupleGo tg (.ref it) u) (fun _ s2=>∃x H',Inv X pins σ H' s2∧qbb x u∧J.yld i H x H'∧tn (i+1) s2.heap∧∀b∈fp,H' b=none) E s1) E s
 done:∀(X:Cx),X.prog=P→X.w=w→X.K=K→X.calm=true→∀(i:Nat) (pins:List (Addr×Obj)) (s:Shared) (σ:St) (H:Hp) (E:Value→Shared→Prop),Inv X pins σ H s→(∀b∈fp,qj4 X pins H b)→tn i s.heap→J.stop i H →
   wpAny (model P w) X.A (pyNext (.ref it)) (fun r s1=>r=none∧Inv X pins σ H s1) E s
 self:∀(A:Around) (i:Nat) (s:Shared) (Q:Value→Shared→Prop) (E:Value→Shared→Prop),tn i s.heap→Q (.ref it) s→wpAny (model P w) A (pyIter (.ref it)) Q E s
abbrev TI:=St→Hp→(It→Hp→Prop)→Prop
def PIE (X:Cx) (pins:List (Addr×Obj)) (σ:St) (tg:Expr) (R:It→Hp→Prop) (itv:Value) (s2:Shared):Prop :=
 ∃(it:Addr) (fp:List Addr) (tn:Nat→Heap→Prop) (J:It) (H':Hp),itv = .ref it∧Inv X pins σ H' s2∧qnh X.prog X.w X.K tg J fp it tn∧tn 0 s2.heap∧(∀b∈fp,qj4 X pins H' b)∧R J H'
def PI (X:Cx) (tg iter:Expr) (wi:TI):Prop :=
 ∀(pins:List (Addr×Obj)) (s:Shared) (σ:St) (H:Hp) (R:It→Hp→Prop),Inv X pins σ H s→wi σ H R →
   wpAny (model X.prog X.w) X.A (eval iter X.env) (fun v s1=>wpAny (model X.prog X.w) X.A (pyIter v) (PIE X pins σ tg R) X.xe s1) X.xe s
def qml {M:Model} {A:Around} {E:Value→Shared→Prop} {s:Shared} {tg:Expr} {it:Addr} {u:Value} {o:Obj} {n:String} {vs:Array Value} {Q:Unit→Shared→Prop} (ho:s.heap.get? it=some o) (hc:o.cls = .type n) (hd:o.data = .fields vs)
   (hn:["enumerate", "zip", "dict_itemiterator", "dict_reverseitemiterator", "odict_iterator", "itertools.zip_longest", "itertools.pairwise"].contains n=false) (hQ:Q () s):wpAny M A (letOwnedTupleGo tg (.ref it) u) Q E s:=by
 unfold letOwnedTupleGo
 cases tg<;>first
   | exact wpAny_pure hQ
   | (cases u<;>first
       | exact wpAny_pure hQ
       | (refine wpAny_bind (wpAny_load ho ?_)
          rw [hc,hd]
          show wpAny M A (if (["enumerate", "zip", "dict_itemiterator", "dict_reverseitemiterator", "odict_iterator", "itertools.zip_longest", "itertools.pairwise"].contains n&&vs[0]?==some (rawInt _))=true then _ else _) Q E s
          rw [if_neg (by intro h;rw [hn,yeu] at h;cases h)]
          exact wpAny_pure hQ))
def Itl (K:PySem.W.Frag) (a:Addr):It :=
 ⟨fun i H=>∃xs x,SqL K H a xs∧xs[i]?=some x,fun i H x H'=>H'=H∧∀xs,SqL K H a xs→xs[i]?=some x,fun i H=>∃xs,SqL K H a xs∧xs.length≤i⟩
def Itt (K:PySem.W.Frag) (a:Addr):It :=
 ⟨fun i H=>∃xs x,SqT K H a xs∧xs[i]?=some x,fun i H x H'=>H'=H∧∀xs,SqT K H a xs→xs[i]?=some x,fun i H=>∃xs,SqT K H a xs∧xs.length≤i⟩
def Itr (lo:Int) (n:Nat):It:=⟨fun i _=>i<n,fun i H x H'=>H'=H∧x = .int (lo+i),fun i _=>n≤i⟩
def qlb {P:Program} {w:World} {K:PySem.W.Frag} {tg:Expr} (a it:Addr):qnh P w K tg (Itl K a) [it] it (fun i h=>h.IsListIter it a i) where
 mem:=by simp
 obj:=fun i h st b hb=>by
   have e:b=it:=by simpa using hb
   subst e
   obtain ⟨o,e,c,d⟩:=st
   exact ⟨o,e,fun v z=>by rw [d] at z;cases z⟩
 keep:=fun i h h' st k=>st.at fun o e=>k it (by simp) o e
 item:=by
   intro X hP hw hK hc i pins s σ H E I hf st hg
   subst hP hw hK
   obtain ⟨xs,x,hq,hx⟩:=hg
   obtain ⟨its,rv,p,hz⟩:=I.list hq
   obtain ⟨u,hu,ru⟩:=rv.get hx
   obtain ⟨f0,f1,f2,f3,f4,f5⟩:=hf it (by simp)
   refine wpAny_pyNext_list_item st p.isList (x:=u) (by simpa using hu) fun h' st' sb=>?_
   have I1:Inv X pins σ H { s with heap:=h' }:=I.turned (t':=s.toks) (fun b o hb e=>(sb.2 b hb).trans e) f0 f1 f3 f4 f5
   obtain ⟨o,e,c,d⟩:=id st'
   exact ⟨u,rfl,qml (s:={ s with heap:=h' }) e c d (by decide) ⟨x,H,I1,ru,⟨rfl,fun ys hy=>by rw [I.list_inj hy hq];exact hx⟩,st',fun b hb=>(hf b hb).1⟩⟩
 done:=by
   intro X hP hw hK hc i pins s σ H E I hf st hg
   subst hP hw hK
   obtain ⟨xs,hq,hx⟩:=hg
   obtain ⟨its,rv,p,hz⟩:=I.list hq
   obtain ⟨f0,f1,f2,f3,f4,f5⟩:=hf it (by simp)
   have hl:=rv.length
   exact wpAny_pyNext_list_end (I.ok.hd hc) st p.isList (by simp;omega) fun h' eb=>⟨rfl,I.turned (t':=s.toks) (fun b o hb e=>eb b o hb e) f0 f1 f3 f4 f5⟩
 self:=fun _ _ _ _ _ st h=>wpAny_pyIter_listiter st h
def qkx {P:Program} {w:World} {K:PySem.W.Frag} {tg:Expr} (a it:Addr):qnh P w K tg (Itt K a) [it] it (fun i h=>h.IsTupleIter it a i) where
 mem:=by simp
 obj:=fun i h st b hb=>by
   have e:b=it:=by simpa using hb
   subst e
   obtain ⟨o,e,c,d⟩:=st
   exact ⟨o,e,fun v z=>by rw [d] at z;cases z⟩
 keep:=fun i h h' st k=>st.at fun o e=>k it (by simp) o e
 item:=by
   intro X hP hw hK hc i pins s σ H E I hf st hg
   subst hP hw hK
   obtain ⟨xs,x,hq,hx⟩:=hg
   obtain ⟨its,rv,p,hz⟩:=I.tuple hq
   obtain ⟨u,hu,ru⟩:=rv.get hx
   obtain ⟨f0,f1,f2,f3,f4,f5⟩:=hf it (by simp)
   refine wpAny_pyNext_tuple_item st (show s.heap.IsTuple a its.toArray from p) (x:=u) (by simpa using hu) fun h' st' sb=>?_
   have I1:Inv X pins σ H { s with heap:=h' }:=I.turned (t':=s.toks) (fun b o hb e=>(sb.2 b hb).trans e) f0 f1 f3 f4 f5
   obtain ⟨o,e,c,d⟩:=id st'
   exact ⟨u,rfl,qml (s:={ s with heap:=h' }) e c d (by decide) ⟨x,H,I1,ru,⟨rfl,fun ys hy=>by rw [I.tuple_inj hy hq];exact hx⟩,st',fun b hb=>(hf b hb).1⟩⟩
 done:=by
   intro X hP hw hK hc i pins s σ H E I hf st hg
   subst hP hw hK
   obtain ⟨xs,hq,hx⟩:=hg
   obtain ⟨its,rv,p,hz⟩:=I.tuple hq
   obtain ⟨f0,f1,f2,f3,f4,f5⟩:=hf it (by simp)
   have hl:=rv.length
   exact wpAny_pyNext_tuple_end (I.ok.hd hc) st (show s.heap.IsTuple a its.toArray from p) (by simp;omega) fun h' eb=>⟨rfl,I.turned (t':=s.toks) (fun b o hb e=>eb b o hb e) f0 f1 f3 f4 f5⟩
 self:=fun _ _ _ _ _ st h=>wpAny_pyIter_tupleiter st h
def qke {P:Program} {w:World} {K:PySem.W.Frag} {tg:Expr} (it:Addr) (lo:Int) (n:Nat):qnh P w K tg (Itr lo n) [it] it (fun i h=>IsRangeIter h it (lo+(i:Nat)*1) ((n:Int)-(i:Nat)) 1) where
 mem:=by simp
 obj:=fun i h st b hb=>by
   have e:b=it:=by simpa using hb
   subst e
   exact ⟨_,st,fun v z=>by
     have z':Data.fields _=Data.cell v:=z
     cases z'⟩
 keep:=fun i h h' st k=>k it (by simp) _ st
 item:=by
   intro X hP hw hK hc i pins s σ H E I hf st hg
   subst hP hw hK
   obtain ⟨f0,f1,f2,f3,f4,f5⟩:=hf it (by simp)
   have W:=Walks.range (prog:=X.prog) (w:=X.w) (I.ok.hd hc) it lo 1 n
   refine W.item i s _ _ hg st fun v h' tk hv st' kk=>?_
   obtain ⟨t,rfl⟩:=hv
   have I1:Inv X pins σ H { s with heap:=h',toks:=tk }:=I.turned (fun b o hb e=>kk b o (by simpa using hb) e) f0 f1 f3 f4 f5
   refine ⟨_,rfl,qml (s:={ s with heap:=h',toks:=tk }) (n := "range_iterator") st' rfl rfl (by decide) ⟨.int (lo+i),H,I1,⟨t,?_⟩,⟨rfl,rfl⟩,st',fun b hb=>(hf b hb).1⟩⟩
   rw [Int.mul_one]
 done:=by
   intro X hP hw hK hc i pins s σ H E I hf st hg
   subst hP hw hK
   obtain ⟨f0,f1,f2,f3,f4,f5⟩:=hf it (by simp)
   exact wpAny_pyNext_range_end (I.ok.hd hc) st (by have:n≤i:=hg;omega) fun h' eb=>⟨rfl,I.turned (t':=s.toks) (fun b o hb e=>eb b o hb e) f0 f1 f3 f4 f5⟩
 self:=fun _ _ _ _ _ st h=>wpAny_pyIter_rangeiter st h
end L2
namespace L2
open PySem PySem.Spec PyProof.Rows
section
variable {X:Cx} {tg:Expr}
def qnP (K:PySem.W.Frag) (tl:TE):TI:=fun σ H R=>tl σ H fun x H1=>∃a,x = .ref a∧(∃xs,SqL K H1 a xs)∧R (Itl K a) H1
def qtE (K:PySem.W.Frag) (tl:TE):TI:=fun σ H R=>tl σ H fun x H1=>∃a,x = .ref a∧(∃xs,SqT K H1 a xs)∧R (Itt K a) H1
def qaJ {l:Expr} {tl:TE} (hl:PE X l tl):PI X tg l (qnP X.K tl):=by
 intro pins s σ H R I h
 refine thn (hl pins s σ H _ I h) fun v s1 ⟨x,H1,I1,r1,q1⟩=>?_
 obtain ⟨a,e,⟨xs,hq⟩,q⟩:=q1
 subst e
 cases r1
 obtain ⟨its,rv,p,hz⟩:=I1.list hq
 refine wpAny_pyIter_list p.isList ?_
 refine ⟨s1.heap.objs.size,[s1.heap.objs.size],_,_,H1,rfl,I1.kept (t':=s1.toks) fun b o e=>ydu _ e,qlb a _,⟨_,ydt _ rfl,rfl,rfl⟩,fun b hb=>?_,q⟩
 have e:b=s1.heap.objs.size:=by simpa using hb
 subst e
 exact I1.fpOk (yba _) (I1.hok.fresh (yba _))
def qjm {l:Expr} {tl:TE} (hl:PE X l tl):PI X tg l (qtE X.K tl):=by
 intro pins s σ H R I h
 refine thn (hl pins s σ H _ I h) fun v s1 ⟨x,H1,I1,r1,q1⟩=>?_
 obtain ⟨a,e,⟨xs,hq⟩,q⟩:=q1
 subst e
 cases r1
 obtain ⟨its,rv,p,hz⟩:=I1.tuple hq
 refine wpAny_pyIter_tuple (show s1.heap.IsTuple a its.toArray from p) ?_
 refine ⟨s1.heap.objs.size,[s1.heap.objs.size],_,_,H1,rfl,I1.kept (t':=s1.toks) fun b o e=>ydu _ e,qkx a _,⟨_,ydt _ rfl,rfl,rfl⟩,fun b hb=>?_,q⟩
 have e:b=s1.heap.objs.size:=by simpa using hb
 subst e
 exact I1.fpOk (yba _) (I1.hok.fresh (yba _))
def qjI {pins:List (Addr×Obj)} {σ:St} {H:Hp} {s:Shared} {R:It→Hp→Prop} {E:Value→Shared→Prop} {lo hi:Int} {t u v:Tok} {tk:Nat} (I:Inv X pins σ H s) (h1:-(2^62)≤lo) (h2:lo<2^62) (h3:-(2^62)≤hi) (h4:hi<2^62)
   (q:R (Itr lo (hi-lo).toNat) H):wpAny (model X.prog X.w) X.A (pyIter (.ref s.heap.objs.size)) (PIE X pins σ tg R) E { s with heap:=s.heap.push { cls := .type "range",data := .fields #[.int lo t,.int hi u,.int 1 v] },toks:=tk }:=by
 refine wpAny_pyIter_range (IsRange.new ..) (small_one h1 h2 h3 h4) ?_
 have I1:Inv X pins σ H { s with heap:=s.heap.push { cls := .type "range",data := .fields #[.int lo t,.int hi u,.int 1 v] },toks:=tk }:=I.kept fun b o e=>ydu _ e
 refine ⟨(s.heap.push { cls := .type "range",data := .fields #[.int lo t,.int hi u,.int 1 v] }).objs.size,[(s.heap.push { cls := .type "range",data := .fields #[.int lo t,.int hi u,.int 1 v] }).objs.size],_,_,H,rfl,
   I1.kept (t':=tk) fun b o e=>ydu _ e,qke _ lo (hi-lo).toNat,?_,fun b hb=>?_,q⟩
 · have e1:lo+((0:Nat):Int)*1=lo:=by simp
   have e2:(((hi-lo).toNat:Nat):Int)-((0:Nat):Int)=Builtin.Range.rangeSize lo hi 1:=by rw [rangeSize_one];split<;>omega
   show IsRangeIter _ _ (lo+((0:Nat):Int)*1) ((((hi-lo).toNat:Nat):Int)-((0:Nat):Int)) 1
   rw [e1,e2]
   exact ydt _ rfl
 · have e:b=(s.heap.push { cls := .type "range",data := .fields #[.int lo t,.int hi u,.int 1 v] }).objs.size:=by simpa using hb
   subst e
   exact I1.fpOk (yba _) (I1.hok.fresh (yba _))
def qq4 (ta:TA):TI:=fun σ H R=>ta σ H fun vs H1=>∃j:Int,vs=[.int j]∧-(2^62)≤j∧j<2^62∧R (Itr 0 j.toNat) H1
def qqU (ta:TA):TI:=fun σ H R=>ta σ H fun vs H1=>∃i j:Int,vs=[.int i,.int j]∧(-(2^62)≤i∧i<2^62∧-(2^62)≤j∧j<2^62)∧R (Itr i (j-i).toNat) H1
def qaI {a:Expr} {ta:TA} {p pos:Pos} (hg:Gl X "range") (hm:X.mg "range" = none) (ha:PA X [a] ta) (hs:starEach [a] X.env=[(false,eval a X.env)]:=by rfl):PI X tg (.Call (.Name "range" p) [a] [] pos) (qq4 ta):=by
 intro pins s σ H R I h
 refine Call_ (qda I hg hm boot_range (PyProof.Rows.callWith_type1 (thn (ha pos pins s σ H _ I h) fun us s1 ⟨vs,H1,I1,r1,q1⟩=>?_) hs rfl))
 obtain ⟨j,e,q1,q2,q⟩:=q1
 subst e
 cases r1 with
 | cons r rr =>
   cases rr
   obtain ⟨t,rfl⟩:=r
   exact call_range_1 (qjI I1 (by omega) (by omega) q1 q2 (by simpa using q))
def qmM {a b:Expr} {ta:TA} {p pos:Pos} (hg:Gl X "range") (hm:X.mg "range" = none) (ha:PA X [a,b] ta) (hs:starEach [a,b] X.env=[(false,eval a X.env),(false,eval b X.env)]:=by rfl) (hs2:starEach [b] X.env=[(false,eval b X.env)]:=by rfl) :
   PI X tg (.Call (.Name "range" p) [a,b] [] pos) (qqU ta):=by
 intro pins s σ H R I h
 refine Call_ (qda I hg hm boot_range (PyProof.Rows.callWith_type1 (thn (ha pos pins s σ H _ I h) fun us s1 ⟨vs,H1,I1,r1,q1⟩=>?_) (by rw [hs,hs2]) (by rw [hs2];rfl)))
 obtain ⟨i,j,e,⟨q1,q2,q3,q4⟩,q⟩:=q1
 subst e
 cases r1 with
 | cons r rr =>
   cases rr with
   | cons r' rr =>
     cases rr
     obtain ⟨t,rfl⟩:=r
     obtain ⟨t',rfl⟩:=r'
     exact call_range_2 (qjI I1 q1 q2 q3 q4 q)
def qng (wi:TI) (g:TG) (tb:TS):TS:=fun D σ H=>wi σ H fun J H1=>∃W:Nat→Nat→St→Hp→Prop,(∃m,W 0 m σ H1)∧∀i m σ H,W i m σ H →
 (J.stop i H∧D.nx σ H)∨(J.go i H∧∃N:St→Hp→Prop,(∀σ' H',N σ' H'→∃m',m'<m∧W (i+1) m' σ' H')∧∀x H',J.yld i H x H'→g x σ H' fun σ2 H2=>tb { D with nx:=N,ct:=N,bk:=D.nx } σ2 H2)
def qio (fp:List Addr) (h:Heap):List (Addr×Obj):=fp.filterMap fun b=>(h.get? b).map fun o=>(b,o)
def qcZ {fp:List Addr} {h:Heap} {b:Addr} {o:Obj} (hb:b∈fp) (e:h.get? b=some o):(b,o)∈qio fp h:=ydo.mpr ⟨b,hb,by rw [e];rfl⟩
def qlX {fp:List Addr} {h:Heap} {p:Addr×Obj} (hp:p∈qio fp h):p.1∈fp∧h.get? p.1=some p.2:=by
 obtain ⟨b,hb,e⟩:=ydo.mp hp
 cases q:h.get? b with
 | none=>rw [q] at e;cases e
 | some o =>
   rw [q] at e
   have e':(b,o)=p:=Option.some.inj e
   subst e'
   exact ⟨hb,q⟩
def Inv.pinned {pins:List (Addr×Obj)} {σ:St} {H:Hp} {s:Shared} {fp:List Addr} (I:Inv X pins σ H s) (hf:∀b∈fp,qj4 X pins H b) (ho:∀b∈fp,∃o,s.heap.get? b=some o∧∀v,o.data ≠ .cell v):Inv X (pins++qio fp s.heap) σ H s :=
 I.pins_of fun p hp=>(yaw.mp hp).elim (fun z=>I.pin p (yev _ z)) fun z=>by
   obtain ⟨hb,e⟩:=qlX z
   obtain ⟨f0,f1,f2,_⟩:=hf p.1 hb
   obtain ⟨o,e',d⟩:=ho p.1 hb
   rw [e] at e';cases e'
   exact ⟨e,f0,f1,f2,d⟩
def Inv.unpinned {pins pl:List (Addr×Obj)} {σ:St} {H:Hp} {s:Shared} (I:Inv X (pins++pl) σ H s):Inv X pins σ H s:=I.pins_of fun p hp=>I.pin p (yev _ (yav _ hp))
def qaY {iter:Expr} {body:List Stmt} {wi:TI} {g:TG} {tb:TS} {pos:Pos} (hp:PassesOwn (model X.prog X.w) X.A X.env X.xe) (hc:X.calm=true) (hi:PI X tg iter wi) (hg:PG X tg g) (hb:PSs X body tb)
   (hs:∀x,foldedSetIterable iter X.env x=pure x:=by intro _;rfl):PS X (.For tg iter body [] pos) (qng wi g tb):=by
 intro pins s σ H D I h
 refine wpAny_For (thn (hi pins s σ H _ I h) fun v s1 h1=>thn h1 fun itv s2 h2=>?_) hs
 obtain ⟨it,fp,tn,J,H2,e,I2,T,st2,f2,W,⟨m0,w0⟩,turn⟩:=h2
 subst e
 -- what stays true of the iterator's objects through the loop
 have stat:∀{H':Hp},(∀b∈fp,H' b=none)→∀b∈fp,qj4 X pins H' b:=fun hn b hb=>⟨hn b hb,(f2 b hb).2⟩
 refine codeAny_forLoop_any (fun n s'=>∃i σ' H',Inv X pins σ' H' s'∧tn i s'.heap∧(∀b∈fp,H' b=none)∧W i n σ' H') ?_ m0 ⟨0,σ,H2,I2,st2,fun b hb=>(f2 b hb).1,w0⟩
 rintro n s3 ⟨i,σ3,H3,I3,st3,fr3,w3⟩
 rcases turn i n σ3 H3 w3 with ⟨stop,qn⟩ | ⟨go,N,hN,step⟩
 · refine wpAny_passesOwn hp (thn (T.done X rfl rfl rfl hc i pins s3 σ3 H3 X.xe I3 (stat fr3) st3 stop) fun r s4 ⟨hr,I4⟩=>?_)
   subst hr
   exact wpAny_execs_nil ⟨σ3,H3,I4,qn⟩
 · refine wpAny_passesOwn hp (thn (T.item X rfl rfl rfl hc i pins s3 σ3 H3 X.xe I3 (stat fr3) st3 go) fun r s4 ⟨u,hr,h4⟩=>?_)
   subst hr
   refine wpAny_passesOwn hp (thn h4 fun _ s5 ⟨x,H5,I5,r5,y5,st5,fr5⟩=>?_)
   have I5':=I5.pinned (stat fr5) (T.obj _ _ st5)
   refine wpAny_passesOwn hp (thn (hg _ s5 σ3 H5 x u _ I5' r5 (step x H5 y5)) fun _ s6 ⟨σ6,H6,I6,q6⟩=>?_)
   refine wpAny_passesOwn hp (thn (hb _ s6 σ6 H6 _ I6 q6) fun f s7 q7=>?_)
   have again:∀{σ7:St} {H7:Hp},Inv X (pins++qio fp s5.heap) σ7 H7 s7→N σ7 H7→∃m,m<n∧∃i σ' H',Inv X pins σ' H' s7∧tn i s7.heap∧(∀b∈fp,H' b=none)∧W i m σ' H':=fun {σ7 H7} I7 n7=>by
     obtain ⟨m',hm,w7⟩:=hN σ7 H7 n7
     refine ⟨m',hm,i+1,σ7,H7,I7.unpinned,T.keep _ _ _ st5 fun b hb o e=>(I7.pin (b,o) (yev _ (yev _ (qcZ hb e)))).1,fun b hb=>?_,w7⟩
     obtain ⟨o,e,d⟩:=T.obj _ _ st5 b hb
     exact (I7.pin (b,o) (yev _ (yev _ (qcZ hb e)))).2.1
   cases f with
   | next=>obtain ⟨σ7,H7,I7,n7⟩:=q7;exact again I7 n7
   | cont=>obtain ⟨σ7,H7,I7,n7⟩:=q7;exact again I7 n7
   | brk=>obtain ⟨σ7,H7,I7,q7⟩:=q7;exact ⟨σ7,H7,I7.unpinned,q7⟩
   | ret v=>obtain ⟨x7,σ7,H7,I7,r7,q7⟩:=q7;exact ⟨x7,σ7,H7,I7.unpinned,r7,q7⟩
end
def qoB {K:PySem.W.Frag} {a:Addr} {xs:List V} {g:TG} {tb:TS} {D:qf2} {σ:St} {H:Hp} (Pv:Nat→St→Hp→Prop) (h0:Pv 0 σ H) (hl:∀i σ H,i≤xs.length→Pv i σ H→SqL K H a xs)
   (hs:∀i x σ H,xs[i]?=some x→Pv i σ H→g x σ H fun σ2 H2=>tb { D with nx:=Pv (i+1),ct:=Pv (i+1),bk:=D.nx } σ2 H2) (hd:∀σ H,Pv xs.length σ H→D.nx σ H) :
   ∃W:Nat→Nat→St→Hp→Prop,(∃m,W 0 m σ H)∧∀i m σ H,W i m σ H →
     ((Itl K a).stop i H∧D.nx σ H)∨((Itl K a).go i H∧∃N:St→Hp→Prop,(∀σ' H',N σ' H'→∃m',m'<m∧W (i+1) m' σ' H')∧∀x H',(Itl K a).yld i H x H'→g x σ H' fun σ2 H2=>tb { D with nx:=N,ct:=N,bk:=D.nx } σ2 H2):=by
 refine ⟨fun i m σ H=>m=xs.length-i∧i≤xs.length∧Pv i σ H,⟨xs.length,by simp,ybz _,h0⟩,?_⟩
 rintro i m σ H ⟨rfl,hi,p⟩
 have q:=hl i σ H hi p
 by_cases hlt:i<xs.length
 · refine .inr ⟨⟨xs,xs[i],q,by simp [hlt]⟩,Pv (i+1),fun σ' H' p'=>⟨xs.length-(i+1),by omega,rfl,hlt,p'⟩,fun x H' y=>?_⟩
   obtain ⟨e,y⟩:=y
   subst e
   exact hs i x σ _ (y xs q) p
 · have e:i=xs.length:=by omega
   subst e
   exact .inl ⟨⟨xs,q,yba _⟩,hd σ H p⟩
def qmb {lo:Int} {n:Nat} {g:TG} {tb:TS} {D:qf2} {σ:St} {H:Hp} (Pv:Nat→St→Hp→Prop) (h0:Pv 0 σ H)
   (hs:∀i σ H,i<n→Pv i σ H→g (.int (lo+i)) σ H fun σ2 H2=>tb { D with nx:=Pv (i+1),ct:=Pv (i+1),bk:=D.nx } σ2 H2) (hd:∀σ H,Pv n σ H→D.nx σ H) :
   ∃W:Nat→Nat→St→Hp→Prop,(∃m,W 0 m σ H)∧∀i m σ H,W i m σ H →
     ((Itr lo n).stop i H∧D.nx σ H)∨((Itr lo n).go i H∧∃N:St→Hp→Prop,(∀σ' H',N σ' H'→∃m',m'<m∧W (i+1) m' σ' H')∧∀x H',(Itr lo n).yld i H x H'→g x σ H' fun σ2 H2=>tb { D with nx:=N,ct:=N,bk:=D.nx } σ2 H2):=by
 refine ⟨fun i m σ H=>m=n-i∧i≤n∧Pv i σ H,⟨n,by simp,ybz _,h0⟩,?_⟩
 rintro i m σ H ⟨rfl,hi,p⟩
 by_cases hlt:i<n
 · refine .inr ⟨hlt,Pv (i+1),fun σ' H' p'=>⟨n-(i+1),by omega,rfl,hlt,p'⟩,fun x H' y=>?_⟩
   obtain ⟨e,y⟩:=y
   subst e y
   exact hs i σ _ hlt p
 · have e:i=n:=by omega
   subst e
   exact .inl ⟨yba _,hd σ H p⟩
end L2
namespace L2
open PySem PySem.Spec PyProof.Rows
abbrev R2:=V→V→Hp→VK→Prop
def OpR (X:Cx) (f:Value→Value→Sem Value) (r:R2):Prop :=
 ∀(pins:List (Addr×Obj)) (s:Shared) (σ:St) (H:Hp) (x y:V) (v u:Value) (Q:VK),Inv X pins σ H s→qbb x v→qbb y u→r x y H Q →
   wpAny (model X.prog X.w) X.A (f v u) (EP X pins σ Q) X.xe s
def UnR (X:Cx) (f:Value→Sem Value) (r:V→Hp→VK→Prop):Prop :=
 ∀(pins:List (Addr×Obj)) (s:Shared) (σ:St) (H:Hp) (x:V) (v:Value) (Q:VK),Inv X pins σ H s→qbb x v→r x H Q →
   wpAny (model X.prog X.w) X.A (f v) (EP X pins σ Q) X.xe s
def qb7 (X:Cx) (f:Value) (r:List V→Hp→VK→Prop):Prop :=
 ∀(pins:List (Addr×Obj)) (s:Shared) (σ:St) (H:Hp) (xs:List V) (us:List Value) (Q:VK),Inv X pins σ H s→qaV xs us→r xs H Q →
   wpAny (model X.prog X.w) X.A (call f us) (EP X pins σ Q) X.xe s
def tOp (r:R2) (ta tb:TE):TE:=fun σ H Q=>ta σ H fun x H1=>tb σ H1 fun y H2=>r x y H2 Q
def tUn (r:V→Hp→VK→Prop) (ta:TE):TE:=fun σ H Q=>ta σ H fun x H1=>r x H1 Q
def rI (C:Int→Int→Prop) (g:Int→Int→V):R2:=fun x y H Q=>∃i j,x = .int i∧y = .int j∧C i j∧Q (g i j) H
def rI0 (g:Int→Int→V):R2:=fun x y H Q=>∃i j,x = .int i∧y = .int j∧Q (g i j) H
def rU (g:Int→V):V→Hp→VK→Prop:=fun x H Q=>∃i,x = .int i∧Q (g i) H
section
variable {X:Cx} {a b c:Expr} {ta tb tc:TE} {pos:Pos}
def qtq (ha:PE X a ta) (hb:PE X b tb) {pins:List (Addr×Obj)} {s:Shared} {σ:St} {H:Hp} {R:V→V→Hp→Prop} (I:Inv X pins σ H s)
   (h:ta σ H fun x H1=>tb σ H1 fun y H2=>R x y H2) {Q:Value→Shared→Prop} {f:Value→Value→Sem Value}
   (hf:∀v u s2 x y H2,Inv X pins σ H2 s2→qbb x v→qbb y u→R x y H2→wpAny (model X.prog X.w) X.A (f v u) Q X.xe s2) :
   wpAny (model X.prog X.w) X.A (eval a X.env) (fun v s₁=>wpAny (model X.prog X.w) X.A (eval b X.env) (fun u s₂=>wpAny (model X.prog X.w) X.A (f v u) Q X.xe s₂) X.xe s₁) X.xe s:=by
 refine thn (ha pins s σ H _ I h) fun v s1 ⟨x,H1,I1,r1,q1⟩=>?_
 refine thn (hb pins s1 σ H1 _ I1 q1) fun u s2 ⟨y,H2,I2,r2,q2⟩=>?_
 exact hf v u s2 x y H2 I2 r1 r2 q2
def qap {op:Operator} {r:R2} (ho:OpR X (binaryOp op) r) (ha:PE X a ta) (hb:PE X b tb):PE X (.BinOp a op b pos) (tOp r ta tb):=by
 intro pins s σ H Q I h
 exact wpAny_BinOp (qtq ha hb I h fun v u s2 x y H2 I2 rx ry q=>ho pins s2 σ H2 x y v u Q I2 rx ry q)
def qqy {op:UnaryOp} {r:V→Hp→VK→Prop} (ho:UnR X (unaryOp op) r) (ha:PE X a ta):PE X (.UnaryOp op a pos) (tUn r ta):=by
 intro pins s σ H Q I h
 exact UnaryOp_ (thn (ha pins s σ H _ I h) fun v s1 ⟨x,H1,I1,r1,q1⟩=>ho pins s1 σ H1 x v Q I1 r1 q1)
def opI {f:Value→Value→Sem Value} {C:Int→Int→Prop} {g:Int→Int→Int}
   (rule:∀(i j:Int) (t u:Tok) (s:Shared) (Q:Value→Shared→Prop) (E:Value→Shared→Prop),C i j→Q (.int (g i j) s.toks) { s with toks:=s.toks+1 }→wpAny (model X.prog X.w) X.A (f (.int i t) (.int j u)) Q E s) :
   OpR X f (rI C fun i j => .int (g i j)):=by
 intro pins s σ H x y v u Q I rx ry h
 obtain ⟨i,j,rfl,rfl,hc,q⟩:=h
 obtain ⟨t,rfl⟩:=rx
 obtain ⟨t',rfl⟩:=ry
 exact rule i j t t' s _ _ hc ⟨.int (g i j),H,I.tok _,⟨_,rfl⟩,q⟩
def qtu {f:Value→Value→Sem Value} {g:Int→Int→Int}
   (rule:∀(i j:Int) (t u:Tok) (s:Shared) (Q:Value→Shared→Prop) (E:Value→Shared→Prop),Q (.int (g i j) s.toks) { s with toks:=s.toks+1 }→wpAny (model X.prog X.w) X.A (f (.int i t) (.int j u)) Q E s) :
   OpR X f (rI0 fun i j => .int (g i j)):=by
 intro pins s σ H x y v u Q I rx ry h
 obtain ⟨i,j,rfl,rfl,q⟩:=h
 obtain ⟨t,rfl⟩:=rx
 obtain ⟨t',rfl⟩:=ry
 exact rule i j t t' s _ _ ⟨.int (g i j),H,I.tok _,⟨_,rfl⟩,q⟩
def qty {f:Value→Value→Sem Value} {g:Int→Int→Bool}
   (rule:∀(i j:Int) (t u:Tok) (s:Shared) (Q:Value→Shared→Prop) (E:Value→Shared→Prop),Q (.bool (g i j)) s→wpAny (model X.prog X.w) X.A (f (.int i t) (.int j u)) Q E s) :
   OpR X f (rI0 fun i j => .bl (g i j)):=by
 intro pins s σ H x y v u Q I rx ry h
 obtain ⟨i,j,rfl,rfl,q⟩:=h
 obtain ⟨t,rfl⟩:=rx
 obtain ⟨t',rfl⟩:=ry
 exact rule i j t t' s _ _ ⟨.bl (g i j),H,I,rfl,q⟩
def quC (i j:Int):Prop:=0≤j∧j≤1000000∧i.natAbs<2^64
def qts (i j:Int):Prop:=(-(2^64)<i∧i<2^64)∨(-(2^64)<j∧j<2^64)
def qts.ok {i j:Int} (h:qts i j):IntMulOk i j:=by
 rcases h with ⟨h1,h2⟩ | ⟨h1,h2⟩
 · exact .of_left (intBits_le_64 h1 h2)
 · exact .of_right (intBits_le_64 h1 h2)
def qkD (k:Nat):(0:Int)≤2^k:=by
 rw [two_pow_cast]
 exact yew _
def qa4:OpR X (binaryOp .Add) (rI0 fun i j => .int (i+j)):=qtu fun _ _ _ _ _ _ _ q=>add_int q
def qfS:OpR X (binaryOp .Sub) (rI0 fun i j => .int (i-j)):=qtu fun _ _ _ _ _ _ _ q=>sub_int q
def qcr:OpR X (binaryOp .Mult) (rI qts fun i j => .int (i*j)):=opI fun _ _ _ _ _ _ _ hc q=>mul_int q hc.ok
def qaW:OpR X (binaryOp .Mod) (rI (fun _ j=>0<j) fun i j => .int (i%j)):=opI fun i j _ _ _ _ _ hc q=>by
 have h1:(0:Int)<j:=hc
 exact mod_int' (by omega) (by rw [Int.fmod_eq_emod_of_nonneg i (by omega)];exact q)
def qbE:OpR X (binaryOp .LShift) (rI quC fun i j => .int (i*2^j.toNat)):=opI fun _ _ _ _ _ _ _ hc q=>lshift_int_small hc.1 hc.2.1 hc.2.2 q
def qpk:OpR X (binaryOp .RShift) (rI (fun _ j=>0≤j) fun i j => .int (i/2^j.toNat)):=opI fun i j _ _ _ _ _ hc q =>
 rshift_int hc (by rw [yex i (qkD _)];exact q)
def qfd:OpR X (binaryOp .BitAnd) (rI0 fun i j => .int (Builtin.bitAnd i j)):=qtu fun _ _ _ _ _ _ _ q=>and_int q
def qgL:OpR X (binaryOp .BitOr) (rI0 fun i j => .int (Builtin.bitOr i j)):=qtu fun _ _ _ _ _ _ _ q=>or_int q
def unI {f:Value→Sem Value} {g:Int→Int}
   (rule:∀(i:Int) (t:Tok) (s:Shared) (Q:Value→Shared→Prop) (E:Value→Shared→Prop),Q (.int (g i) s.toks) { s with toks:=s.toks+1 }→wpAny (model X.prog X.w) X.A (f (.int i t)) Q E s) :
   UnR X f (rU fun i => .int (g i)):=by
 intro pins s σ H x v Q I rx h
 obtain ⟨i,rfl,q⟩:=h
 obtain ⟨t,rfl⟩:=rx
 exact rule i t s _ _ ⟨.int (g i),H,I.tok _,⟨_,rfl⟩,q⟩
def qpf:UnR X (unaryOp .USub) (rU fun i => .int (-i)):=unI fun _ _ _ _ _ q=>neg_int q
def qrF:UnR X (unaryOp .Invert) (rU fun i => .int (Builtin.bitNot i)):=unI fun _ _ _ _ _ q=>invert_int q
end
def qoD:V→V→Bool
 | .non,.non=>true | .non,.int _=>true | .int _,.non=>true | .non,.bl _=>true | .bl _,.non=>true | .non,.str _=>true | .str _,.non=>true
 | .int _,.int _=>true | .bl _,.bl _=>true | .str _,.str _=>true | .byt _,.byt _=>true
 | .int _,.str _=>true | .str _,.int _=>true | .bl _,.str _=>true | .str _,.bl _=>true
 | _,_=>false
def rEq:R2:=fun x y H Q=>qoD x y=true∧Q (.bl (decide (x=y))) H
def rNe:R2:=fun x y H Q=>qoD x y=true∧Q (.bl (!decide (x=y))) H
def qmo {i j:Int}:decide (V.int i=V.int j)=(i==j):=by
 rw [yay]
 simp
def qpC {i j:Bool}:decide (V.bl i=V.bl j)=(i==j):=by
 rw [yay]
 simp
def qk1 {i j:Str}:decide (V.str i=V.str j)=(i==j):=by
 rw [yay]
 simp
def qlt {i j:Array UInt8}:decide (V.byt i=V.byt j)=(i.toList==j.toList):=by
 rw [yay]
 cases i
 cases j
 simp
section
variable {X:Cx} {a b c:Expr} {ta tb tc:TE} {pos:Pos}
def qaN {pins:List (Addr×Obj)} {σ:St} {H:Hp} {s:Shared} {Q:VK} {k k':Bool} (I:Inv X pins σ H s) (q:Q (.bl k) H) (e:k=k'):EP X pins σ Q (.bool k') s:=by
 subst e
 exact ⟨.bl k,H,I,rfl,q⟩
def qtD:OpR X (compareOp .Eq) rEq:=by
 intro pins s σ H x y v u Q I rx ry h
 obtain ⟨hs,q⟩:=h
 cases x with
 | non =>
   cases rx
   cases y with
   | non=>cases ry;exact PySem.EqNone.eq_none_none (qaN I q (by simp))
   | bl j=>cases ry;exact PySem.EqNone.eq_none_bool (qaN I q (by simp))
   | int j=>obtain ⟨t',rfl⟩:=ry;exact PySem.EqNone.eq_none_int (qaN I q (by simp))
   | str j=>obtain ⟨t',rfl⟩:=ry;exact PySem.EqNone.eq_none_str (qaN I q (by simp))
   | _=>exact absurd (show false=true from hs) yet
 | bl i =>
   cases rx
   cases y with
   | non=>cases ry;exact PySem.EqNone.eq_bool_none (qaN I q (by simp))
   | bl j=>cases ry;exact eq_bool (qaN I q qpC)
   | str j=>obtain ⟨t',rfl⟩:=ry;exact PySem.EqMixed.eq_bool_str (qaN I q (by simp))
   | _=>exact absurd (show false=true from hs) yet
 | int i =>
   obtain ⟨t,rfl⟩:=rx
   cases y with
   | non=>cases ry;exact PySem.EqNone.eq_int_none (qaN I q (by simp))
   | int j=>obtain ⟨t',rfl⟩:=ry;exact eq_int (qaN I q qmo)
   | str j=>obtain ⟨t',rfl⟩:=ry;exact PySem.EqMixed.eq_int_str (qaN I q (by simp))
   | _=>exact absurd (show false=true from hs) yet
 | str i =>
   obtain ⟨t,rfl⟩:=rx
   cases y with
   | non=>cases ry;exact PySem.EqNone.eq_str_none (qaN I q (by simp))
   | bl j=>cases ry;exact PySem.EqMixed.eq_str_bool (qaN I q (by simp))
   | int j=>obtain ⟨t',rfl⟩:=ry;exact PySem.EqMixed.eq_str_int (qaN I q (by simp))
   | str j=>obtain ⟨t',rfl⟩:=ry;exact eq_str (qaN I q qk1)
   | _=>exact absurd (show false=true from hs) yet
 | byt i =>
   obtain ⟨t,rfl⟩:=rx
   cases y with
   | byt j=>obtain ⟨t',rfl⟩:=ry;exact PySem.W.eq_bytes (qaN I q qlt)
   | _=>exact absurd (show false=true from hs) yet
 | _=>cases y<;>exact absurd (show false=true from hs) yet
def qt1:OpR X (compareOp .NotEq) rNe:=by
 intro pins s σ H x y v u Q I rx ry h
 obtain ⟨hs,q⟩:=h
 cases x with
 | non =>
   cases rx
   cases y with
   | non=>cases ry;exact PySem.EqNone.ne_none_none (qaN I q (by simp))
   | bl j=>cases ry;exact PySem.EqNone.ne_none_bool (qaN I q (by simp))
   | int j=>obtain ⟨t',rfl⟩:=ry;exact PySem.EqNone.ne_none_int (qaN I q (by simp))
   | str j=>obtain ⟨t',rfl⟩:=ry;exact PySem.EqNone.ne_none_str (qaN I q (by simp))
   | _=>exact absurd (show false=true from hs) yet
 | bl i =>
   cases rx
   cases y with
   | non=>cases ry;exact PySem.EqNone.ne_bool_none (qaN I q (by simp))
   | bl j=>cases ry;exact ne_bool (qaN I q (congrArg not qpC))
   | str j=>obtain ⟨t',rfl⟩:=ry;exact PySem.EqMixed.ne_bool_str (qaN I q (by simp))
   | _=>exact absurd (show false=true from hs) yet
 | int i =>
   obtain ⟨t,rfl⟩:=rx
   cases y with
   | non=>cases ry;exact PySem.EqNone.ne_int_none (qaN I q (by simp))
   | int j=>obtain ⟨t',rfl⟩:=ry;exact ne_int (qaN I q (congrArg not qmo))
   | str j=>obtain ⟨t',rfl⟩:=ry;exact PySem.EqMixed.ne_int_str (qaN I q (by simp))
   | _=>exact absurd (show false=true from hs) yet
 | str i =>
   obtain ⟨t,rfl⟩:=rx
   cases y with
   | non=>cases ry;exact PySem.EqNone.ne_str_none (qaN I q (by simp))
   | bl j=>cases ry;exact PySem.EqMixed.ne_str_bool (qaN I q (by simp))
   | int j=>obtain ⟨t',rfl⟩:=ry;exact PySem.EqMixed.ne_str_int (qaN I q (by simp))
   | str j=>obtain ⟨t',rfl⟩:=ry;exact ne_str (qaN I q (congrArg not qk1))
   | _=>exact absurd (show false=true from hs) yet
 | byt i =>
   obtain ⟨t,rfl⟩:=rx
   cases y with
   | byt j=>obtain ⟨t',rfl⟩:=ry;exact PySem.W.ne_bytes (qaN I q (congrArg not qlt))
   | _=>exact absurd (show false=true from hs) yet
 | _=>cases y<;>exact absurd (show false=true from hs) yet
def qol:OpR X (compareOp .Lt) (rI0 fun i j => .bl (decide (i<j))):=qty fun _ _ _ _ _ _ _ q=>lt_int q
def qog:OpR X (compareOp .LtE) (rI0 fun i j => .bl (decide (i≤j))):=qty fun _ _ _ _ _ _ _ q=>le_int q
def qkg:OpR X (compareOp .Gt) (rI0 fun i j => .bl (decide (j<i))):=qty fun _ _ _ _ _ _ _ q=>gt_int q
def qtd:OpR X (compareOp .GtE) (rI0 fun i j => .bl (decide (j≤i))):=qty fun _ _ _ _ _ _ _ q=>ge_int q
def OpR.or {f:Value→Value→Sem Value} {r r':R2} (h:OpR X f r) (h':OpR X f r'):OpR X f (fun x y H Q=>r x y H Q∨r' x y H Q):=by
 intro pins s σ H x y v u Q I rx ry q
 rcases q with q | q
 · exact h pins s σ H x y v u Q I rx ry q
 · exact h' pins s σ H x y v u Q I rx ry q
def qas (b:Expr) {op:CmpOp} (h:op ≠ .In:=by decide) (h2:op ≠ .NotIn:=by decide):behindInMarks op b=false:=by
 have e1:(op==CmpOp.In)=false:=by cases op<;>first | rfl | exact absurd rfl h
 have e2:(op==CmpOp.NotIn)=false:=by cases op<;>first | rfl | exact absurd rfl h2
 cases b<;>simp [behindInMarks,e1,e2]
def qfA {op:CmpOp} {r:R2} (ho:OpR X (compareOp op) r) (ha:PE X a ta) (hb:PE X b tb) (hm:behindInMarks op b=false):PE X (.Compare a [op] [b] pos) (tOp r ta tb):=by
 intro pins s σ H Q I h
 exact wpAny_Compare1 (qtq ha hb I h fun v u s2 x y H2 I2 rx ry q=>ho pins s2 σ H2 x y v u Q I2 rx ry q) hm
def qrW (t:TE):TT:=fun σ H Q=>t σ H fun x H'=>∃k,x = .bl k∧Q k H'
def qal {op:CmpOp} {r:R2} (ho:OpR X (compareOp op) r) (ha:PE X a ta) (hb:PE X b tb) (hm:behindInMarks op b=false):PT X (.Compare a [op] [b] pos) (qrW (tOp r ta tb)):=by
 intro pins s σ H Q I h
 refine wpAny_isTrue_Compare1 (thn (ha pins s σ H _ I h) fun v s1 ⟨x,H1,I1,r1,q1⟩=>thn (hb pins s1 σ H1 _ I1 q1) fun u s2 ⟨y,H2,I2,r2,q2⟩ =>
   thn (ho pins s2 σ H2 x y v u _ I2 r1 r2 q2) fun c s3 ⟨z,H3,I3,r3,k,e,q3⟩=>?_) hm
 subst e
 cases r3
 exact wpAny_truthy_bool ⟨H3,I3,q3⟩
def qo3 (r r':R2) (ta tb tc:TE):TE:=fun σ H Q=>ta σ H fun x H1=>tb σ H1 fun y H2=>r x y H2 fun z H3=>∃k,z = .bl k ∧
 (if k=true then tc σ H3 fun w' H4=>r' y w' H4 Q else Q (.bl false) H3)
def qhi {op op':CmpOp} {r r':R2} (ho:OpR X (compareOp op) r) (ho':OpR X (compareOp op') r') (ha:PE X a ta) (hb:PE X b tb) (hc:PE X c tc)
   (hm:lastMarks [op,op'] [b,c]=false:=by with_unfolding_all rfl):PE X (.Compare a [op,op'] [b,c] pos) (qo3 r r' ta tb tc):=by
 intro pins s σ H Q I h
 refine Compare_chain (thn (ha pins s σ H _ I h) fun v s1 ⟨x,H1,I1,r1,q1⟩=>chain_link (thn (hb pins s1 σ H1 _ I1 q1) fun u s2 ⟨y,H2,I2,r2,q2⟩ =>
   thn (ho pins s2 σ H2 x y v u _ I2 r1 r2 q2) fun d s3 ⟨z,H3,I3,r3,k,e,q3⟩=>?_)) hm
 subst e
 cases r3
 refine wpAny_truthy_bool ?_
 cases k with
 | false=>exact ite_ff ⟨.bl false,H3,I3,rfl,q3⟩
 | true=>exact ite_tt (chain_last (thn (hc pins s3 σ H3 _ I3 q3) fun w' s4 ⟨z',H4,I4,r4,q4⟩=>ho' pins s4 σ H4 y z' u w' Q I4 r2 r4 q4))
def qgk:(sizeLine:Nat)<2^63:=by rw [sizeLine_eq];decide
def qaK:OpR X (binaryOp .Add) (fun x y H Q=>∃i j,x = .str i∧y = .str j∧i.length+j.length≤sizeLine∧Q (.str (i++j)) H):=by
 intro pins s σ H x y v u Q I rx ry h
 obtain ⟨i,j,rfl,rfl,hz,q⟩:=h
 obtain ⟨t,rfl⟩:=rx
 obtain ⟨t',rfl⟩:=ry
 exact add_str (fun t' tk=>⟨.str (i++j),H,I.tok _,⟨_,rfl⟩,q⟩) hz
def qov (b:Expr):Prop:=∀o i,subscripted b false o i=operate [o,i] (getItem o i)
def qdr (ha:PE X a ta) (hb:PE X b tb) (hs:qov b) :
   PE X (.Subscript a b pos) (tOp (fun x y H Q=>∃z i c,x = .str z∧y = .int i∧0≤i∧i<2^63∧i<z.length∧z.cps[i.toNat]?=some c∧Q (.str ⟨#[c]⟩) H) ta tb):=by
 intro pins s σ H Q I h
 refine Subscript_ (qtq ha hb I h fun v u s2 x y H2 I2 rx ry q=>?_)
 obtain ⟨z,i,c,rfl,rfl,h0,h63,h1,hc,q⟩:=q
 obtain ⟨t,rfl⟩:=rx
 obtain ⟨t',rfl⟩:=ry
 have e:seqIndex? i z.length=some i.toNat:=PySem.StrLaws.seqIndex_nonneg h0 h1
 exact tail_any (typeIs_str s2 z t) slot_str_getitem.lookup (getItem_str (c:=c) (by
   have e1:decide (i < -(2^63:Int))=false:=decide_eq_false (by omega)
   have e2:decide (i≥2^63)=false:=decide_eq_false (by omega)
   rw [e1,e2]<;>rfl) (by rw [e];exact hc) ⟨.str ⟨#[c]⟩,H2,I2.tok _,⟨_,rfl⟩,q⟩) (hs _ _)
def qb6 {x:V} {us:List Value} (r:qaV [x] us):∃u,us=[u]∧qbb x u:=by
 cases r with
 | cons r1 r2=>cases r2;exact ⟨_,rfl,r1⟩
def qlI {x y:V} {us:List Value} (r:qaV [x,y] us):∃u w',us=[u,w']∧qbb x u∧qbb y w':=by
 cases r with
 | cons r1 r2 =>
   cases r2 with
   | cons r3 r4=>cases r4;exact ⟨_,_,rfl,r1,r3⟩
def qfL (hc:X.calm=true):qb7 X (.builtin "max") (fun xs H Q=>∃i j,xs=[.int i,.int j]∧Q (.int (if j>i then j else i)) H):=by
 intro pins s σ H xs us Q I r h
 obtain ⟨i,j,rfl,q⟩:=h
 obtain ⟨u,w',rfl,⟨t,rfl⟩,⟨t',rfl⟩⟩:=qlI r
 refine max_two_ints (I.ok.hd hc) fun h' tk k=>⟨_,H,I.kept k,?_,q⟩
 by_cases hj:j>i
 · rw [if_pos hj,if_pos hj];exact ⟨_,rfl⟩
 · rw [if_neg hj,if_neg hj];exact ⟨_,rfl⟩
def qhX:qb7 X (.type "int") (fun xs H Q=>(∃i,xs=[.int i]∧Q (.int i) H)∨∃k,xs=[.bl k]∧Q (.int (if k then 1 else 0)) H):=by
 intro pins s σ H xs us Q I r h
 rcases h with ⟨i,rfl,q⟩ | ⟨k,rfl,q⟩
 · obtain ⟨u,rfl,t,rfl⟩:=qb6 r
   exact call_int_int ⟨.int i,H,I,⟨_,rfl⟩,q⟩
 · obtain ⟨u,rfl,r1⟩:=qb6 r
   cases r1
   exact call_int_bool ⟨.int (if k then 1 else 0),H,I.tok _,⟨_,rfl⟩,q⟩
def qcV:qb7 X (.type "str") (fun xs H Q=>∃i,xs=[.int i]∧i.natAbs.log2<1920∧Q (.str (toString i)) H):=by
 intro pins s σ H xs us Q I r h
 obtain ⟨i,rfl,hz,q⟩:=h
 obtain ⟨u,rfl,t,rfl⟩:=qb6 r
 exact PySem.P.str_of_int hz ⟨.str _,H,I.tok _,⟨_,rfl⟩,q⟩
end
end L2
namespace L2
open PySem PySem.Spec PyProof.Rows
structure qqu (h:Heap) (x dx C:Addr) (mA:Str→Option Value):Prop where
 obj:h.get? x=some (PySem.W.instObj C dx)
 ns:h.Ns1 dx mA
 ne:dx≠x
def qk9 {h:Heap} {dx:Addr} {mA:Str→Option Value} (n:h.Ns1 dx mA):∃od,h.get? dx=some od∧∀name,PySem.W.lookIn name od=some (mA name):=by
 obtain ⟨o,es,ep,ho,hd,hk,_,hm⟩:=n
 refine ⟨o,ho,fun name=>?_⟩
 have e:=hm name
 unfold nsFind findBy at e
 rw [←Array.find?_toList] at e
 unfold PySem.W.lookIn
 rw [hd]
 dsimp only
 split
 · rename_i y q
   rw [q] at e
   exact congrArg some e
 · rename_i q
   rw [q] at e
   have a:es.toList.any (·.refKey)=false:=by
     rw [ybc]
     intro y hy
     obtain ⟨z,t,hkey⟩:=hk y (yey.mp hy)
     simp [DictEntry.refKey,hkey]
   have a':¬es.toList.any (·.refKey)=true:=by rw [a];exact yet
   rw [if_neg a']
   exact congrArg some e
def qqu.look {h:Heap} {x dx C:Addr} {mA:Str→Option Value} (I:qqu h x dx C mA):∃od,PySem.W.InstAt h x (PySem.W.instObj C dx) C (some od)∧∀name,PySem.W.lookIn name od=some (mA name) :=
 let ⟨od,ho,hl⟩:=qk9 I.ns
 ⟨od,⟨I.obj,rfl,rfl,ho⟩,hl⟩
section
variable {prog:Program} {w:World} {A:Around} {E:Value→Shared→Prop} {s:Shared} {K:PySem.W.Frag} {x dx C f:Addr} {mA:Str→Option Value} {name:Str} {v:Value}
def qp6 {expr:Bool} {Q:Value→Shared→Prop} (X:K.In s.heap) (I:qqu s.heap x dx C mA) (hg:PySem.W.plainGet K C name=true) (hh:PySem.W.hasDictIn K C=true)
   (ha:PySem.W.findIn K (.ref C) name=some none) (hv:mA name=some v) (hv':PySem.W.handedIn v=true) (h:Q v { s with toks:=s.toks+1 }) :
   wpAny (model prog w) A (getAttr (.ref x) name expr) Q E s:=by
 obtain ⟨od,J,hl⟩:=I.look
 exact PySem.W.get_value X J (PySem.W.plainGet_of hg).1 (PySem.W.findObj_own hh ha rfl (by rw [hl,hv])) hv' h
def qnz {pl:Sem Bool} {Q:Value×List Value→Shared→Prop} (X:K.In s.heap) (I:qqu s.heap x dx C mA) (hg:PySem.W.plainGet K C name=true)
   (hf:PySem.W.findIn K (.ref C) name=some (some (.ref f))) (ht:PySem.W.isFn K (.ref f)=true) (hv:mA name=none) (h:Q (.ref f,[.ref x]) s) :
   wpAny (model prog w) A (getMethod (.ref x) name pl) Q E s:=by
 obtain ⟨od,J,hl⟩:=I.look
 exact PySem.W.method_fn X J (PySem.W.plainGet_of hg).1 (PySem.W.plainGet_of hg).2 hf (beq_iff_eq.mp ht) (by show (PySem.W.lookIn name od).map (·.isSome)=some false;rw [hl,hv];rfl) h
def qrf {ns:List Str} {Q:Unit→Shared→Prop} (X:K.In s.heap) (I:qqu s.heap x dx C mA)
   (hs:PySem.W.findIn K (.ref C) "__setattr__" = some (some (.builtin "object.__setattr__"))) (hp:PySem.W.plainOver K C=true) (ht:PySem.W.takerIn K C name=some none) (hh:PySem.W.hasDictIn K C=true)
   (hw:PySem.Within mA ns) (hsz:ns.length≤sizeLine)
   (h:∀h',qqu h' x dx C (fun y=>if y=name then some v else mA y)→Heap.SameBut dx s.heap h'→Q () { s with heap:=h',toks:=s.toks+2 }) :
   wpAny (model prog w) A (setAttr (.ref x) name v) Q E s:=by
 obtain ⟨od,J,hl⟩:=I.look
 refine PySem.W.set_plain X J hs (PySem.W.osa_open (s:={ s with toks:=s.toks+1 }) (r:=none) X J hp ht fun b=>?_)
 obtain ⟨cd,hc,hd'⟩:=PySem.W.any_some hh
 have hx:s.heap.get? x=some ⟨.ref C,some dx,.plain,#[]⟩:=I.obj
 refine wpAny_bind (wpAny_pure (wpAny_bind (wpAny_bind (wpAny_loadPart hx (wpAny_bind (PySem.W.Looks.here (s:={ s with toks:=s.toks+1 }) (PySem.W.looks_clsIn X hc) ?_))))))
 rw [hd']
 refine wpAny_pure (a:=some dx) (wpAny_bind (wpAny_pure (wpAny_bind ?_)))
 refine wpAny_nsSet1 (s:={ s with toks:=s.toks+1 }) I.ns fun h' hn2 hs2=>?_
 obtain ⟨oD,esD,epD,hoD,hdD,hcD⟩:=hn2.count (PySem.Within.cons name v hw)
 refine wpAny_bind (wpAny_lookBehind hoD (by rw [hdD];exact pastItsLine_dict (ydc hcD (by rw [ycb];omega))) ?_)
 exact wpAny_pure (h _ ⟨(hs2.2 _ (Ne.symm I.ne)).trans I.obj,hn2,I.ne⟩ hs2)
def qnW {R:Result→Shared→Prop} {vs:List Value} {kw:List (Str×Value)} (X:K.In s.heap) (hm:PySem.W.makesIn K C=true)
   (hi:PySem.W.findIn K (.ref C) "__init__" = some (some (.ref f))) (hf:PySem.W.typeIn K (.ref f)=some (.type "function"))
   (h:codeAny (model prog w) (A.under (.builtin "type.__call__" ⟨.ref C::vs,kw⟩)) (.call (.ref f) ⟨.ref (s.heap.objs.size+1)::vs,kw⟩) (PySem.W.InitBack (s.heap.objs.size+1) R)
     { s with heap:=(s.heap.push PySem.W.emptyDict).push (PySem.W.instObj C s.heap.objs.size) }) :
   codeAny (model prog w) A (.call (.ref C) ⟨vs,kw⟩) R s:=by
 obtain ⟨hh,g,d,t,os⟩:=s
 exact PySem.W.make_core (PySem.W.makes_of X hm) (PySem.W.looks_findIn X hi) (fun self=>PySem.W.bind_fn X self hf) (.inl rfl) h
end
def qhc (f:Str) (v:V):List (Str×V)→List (Str×V)
 | []=>[(f,v)]
 | (g,x)::r=>if g=f then (g,v)::r else (g,x)::qhc f v r
def qfq (f g:Str) (v:V):∀fs:List (Str×V),(qhc f v fs).lookup g=if g=f then some v else fs.lookup g
 | []=>by
   show List.lookup g [(f,v)]=_
   by_cases h:g=f
   · have hb:(g==f)=true:=beq_iff_eq.mpr h
     simp only [List.lookup,hb,if_pos h]
   · have hb:(g==f)=false:=beq_eq_false_iff_ne.mpr h
     simp only [List.lookup,hb,if_neg h]
 | (k,x)::r=>by
   have ih:=qfq f g v r
   rw [show qhc f v ((k,x)::r)=(if k=f then (k,v)::r else (k,x)::qhc f v r) from rfl]
   by_cases hk:k=f
   · rw [if_pos hk]
     by_cases h:g=k
     · have hb:(g==k)=true:=beq_iff_eq.mpr h
       simp only [List.lookup,hb,if_pos (h.trans hk)]
     · have hb:(g==k)=false:=beq_eq_false_iff_ne.mpr h
       simp only [List.lookup,hb,if_neg (fun e:g=f=>h (e.trans hk.symm))]
   · rw [if_neg hk]
     by_cases h:g=k
     · have hb:(g==k)=true:=beq_iff_eq.mpr h
       simp only [List.lookup,hb,if_neg (fun e:g=f=>hk (h.symm.trans e))]
     · have hb:(g==k)=false:=beq_eq_false_iff_ne.mpr h
       simp only [List.lookup,hb]
       exact ih
def qfw (f:Str) (v:V):∀fs:List (Str×V),f∈(qhc f v fs).map (·.1)∧∀g,g∈fs.map (·.1)→g∈(qhc f v fs).map (·.1)
 | []=>⟨by simp [qhc],fun g h=>by simp at h⟩
 | (k,x)::r=>by
   obtain ⟨i1,i2⟩:=qfw f v r
   rw [show qhc f v ((k,x)::r)=(if k=f then (k,v)::r else (k,x)::qhc f v r) from rfl]
   by_cases hk:k=f
   · rw [if_pos hk]
     subst hk
     exact ⟨by simp,fun g h=>by simpa using h⟩
   · rw [if_neg hk]
     refine ⟨?_,fun g h=>?_⟩
     · rw [ycf]
       exact ybh _ i1
     · rw [ycf] at h ⊢
       rcases ybg.mp h with e | e
       · exact ybg.mpr (.inl e)
       · exact ybh _ (i2 g e)
def qe0 (f:Str) (v:V):∀fs:List (Str×V),(qhc f v fs).length≤fs.length+1
 | []=>by simp [qhc]
 | (k,x)::r=>by
   have ih:=qe0 f v r
   rw [show qhc f v ((k,x)::r)=(if k=f then (k,v)::r else (k,x)::qhc f v r) from rfl]
   by_cases hk:k=f
   · rw [if_pos hk,ycb,ycb];omega
   · rw [if_neg hk,ycb,ycb];omega
def qhs.some_of {v:V} {o:Option Value} (r:qhs (some v) o):∃u,o=some u∧qbb v u:=by
 cases o with
 | none=>exact (show False from r).elim
 | some u=>exact ⟨u,rfl,r⟩
def qhs.none_of {o:Option Value} (r:qhs none o):o=none:=by
 cases o with
 | none=>rfl
 | some u=>exact (show False from r).elim
def qm3 {v:V} {u:Value} (r:qbb v u):PySem.W.handedIn u=true:=by
 cases v with
 | non=>cases (show u=Value.none from r);rfl
 | bl b=>cases (show u=Value.bool b from r);rfl
 | int i=>obtain ⟨t,e⟩:=(show ∃t,u=Value.int i t from r);cases e;rfl
 | str x=>obtain ⟨t,e⟩:=(show ∃t,u=Value.str x t from r);cases e;rfl
 | byt b=>obtain ⟨t,e⟩:=(show ∃t,u=Value.bytes b t from r);cases e;rfl
 | flt b=>obtain ⟨t,e⟩:=(show ∃t,u=Value.float b t from r);cases e;rfl
 | ref a=>cases (show u=Value.ref a from r);rfl
 | ty n=>cases (show u=Value.type n from r);rfl
section
variable {P:Program} {w:World} {H H':Hp} {h h':Heap} {a C dx:Addr} {fs fs':List (Str×V)}
def qhf (hok:HOk P w H h) (e:H a=some (.ins C dx fs)):∃mA,qqu h a dx C mA∧(∀f,qhs (fs.lookup f) (mA f))∧PySem.Within mA (fs.map (·.1))∧fs.length≤1000∧H dx=some (.own a):=by
 obtain ⟨d,z,ne,ob,mA,n,r,q⟩:=(show qbl P w H h a (.ins C dx fs) from hok a _ e)
 exact ⟨mA,⟨ob,n,ne⟩,r,q,z,d⟩
end
structure Cls (K:PySem.W.Frag) (C:Addr):Prop where
 pg:PySem.W.plainGet K C Str.empty=true
 hd:PySem.W.hasDictIn K C=true
 po:PySem.W.plainOver K C=true
 sa:PySem.W.findIn K (.ref C) "__setattr__" = some (some (.builtin "object.__setattr__"))
def Cls.get {K:PySem.W.Frag} {C:Addr} (c:Cls K C) (f:Str):PySem.W.plainGet K C f=true:=c.pg
def qdQ (K:PySem.W.Frag) (C:Addr) (f:Str):Prop:=PySem.W.findIn K (.ref C) f=some none
def qdQ.taker {K:PySem.W.Frag} {C:Addr} {f:Str} (n:qdQ K C f):PySem.W.takerIn K C f=some none:=by
 unfold PySem.W.takerIn
 rw [show PySem.W.findIn K (.ref C) f=some none from n]
 rfl
structure Con (K:PySem.W.Frag) (C:Addr) (f:Str) (v:V) (u:Value):Prop where
 at_:PySem.W.findIn K (.ref C) f=some (some u)
 rel:qbb v u
 get:PySem.W.specialIn K u "__get__" = some none
 cp:PySem.W.copiedNames.contains f=false
structure qsg (K:PySem.W.Frag) (C:Addr) (m:Str) (f:Addr):Prop where
 at_:PySem.W.findIn K (.ref C) m=some (some (.ref f))
 fn:PySem.W.isFn K (.ref f)=true
 kp:PySem.W.keepIn K (.ref f)=true
section
variable {X:Cx} {pins:List (Addr×Obj)} {σ:St} {H:Hp} {s:Shared} {a C dx:Addr} {fs:List (Str×V)} {f:Str} {v:V} {A:Around} {E:Value→Shared→Prop}
def qkG {b:Bool} {Q:Value→Shared→Prop} (I:Inv X pins σ H s) (e:H a=some (.ins C dx fs)) (c:Cls X.K C) (n:qdQ X.K C f) (l:fs.lookup f=some v)
   (h:∀u s',Inv X pins σ H s'→qbb v u→Q u s'):wpAny (model X.prog X.w) A (getAttr (.ref a) f b) Q E s:=by
 obtain ⟨mA,O,r,_,_,_⟩:=qhf I.hok e
 obtain ⟨u,hu,ru⟩:=qhs.some_of (v:=v) (o:=mA f) (by rw [←l];exact r f)
 exact qp6 I.kIn O (c.get f) c.hd n hu (qm3 ru) (h u _ (I.tok _) ru)
def qgg {m:Str} {g:Addr} {pl:Sem Bool} {Q:Value×List Value→Shared→Prop} (I:Inv X pins σ H s) (e:H a=some (.ins C dx fs)) (c:Cls X.K C) (k:qsg X.K C m g) (l:fs.lookup m=none)
   (h:Q (.ref g,[.ref a]) s):wpAny (model X.prog X.w) A (getMethod (.ref a) m pl) Q E s:=by
 obtain ⟨mA,O,r,_,_,_⟩:=qhf I.hok e
 have hn:mA m=none:=qhs.none_of (by rw [←l];exact r m)
 exact qnz I.kIn O (c.get m) k.at_ k.fn hn h
def qks {y:V} {u:Value} {Q:Unit→Shared→Prop} (I:Inv X pins σ H s) (e:H a=some (.ins C dx fs)) (c:Cls X.K C) (n:qdQ X.K C f) (hl:fs.length<1000) (ry:qbb y u)
   (h:∀s',Inv X pins σ (upd H a (.ins C dx (qhc f y fs))) s'→Q () s'):wpAny (model X.prog X.w) A (setAttr (.ref a) f u) Q E s:=by
 obtain ⟨mA,O,r,wi,_,ho⟩:=qhf I.hok e
 have hz:(fs.map (·.1)).length≤sizeLine:=by rw [ycd,sizeLine_eq];omega
 refine qrf I.kIn O c.sa c.po n.taker c.hd wi hz fun h' O' sb=>h _ ?_
 have hd:∃o,h'.get? dx=some o:=let ⟨o,_,_,e',_⟩:=O'.ns;⟨o,e'⟩
 refine I.write (x:=a) (e:=dx) (by rw [e];exact True.intro) (.inr ho) (fun b q hb z=>(sb.2 b hb).trans z) hd ?_
 refine ⟨by rw [qay O.ne];exact ho,?_,O.ne,O'.obj,_,O'.ns,fun g=>?_,fun g hg=>?_⟩
 · have:=qe0 f y fs;omega
 · show qhs ((qhc f y fs).lookup g) (if g=f then some u else mA g)
   rw [qfq]
   by_cases q:g=f
   · rw [if_pos q,if_pos q];exact ry
   · rw [if_neg q,if_neg q];exact r g
 · by_cases q:g=f
   · rw [q];exact (qfw f y fs).1
   · refine (qfw f y fs).2 g (wi g fun z=>hg ?_)
     show (if g=f then some u else mA g)=none
     rw [if_neg q];exact z
def Inv.made (I:Inv X pins σ H s):Inv X pins σ (upd (upd H s.heap.objs.size (.own (s.heap.objs.size+1))) (s.heap.objs.size+1) (.ins C s.heap.objs.size []))
   { s with heap:=(s.heap.push PySem.W.emptyDict).push (PySem.W.instObj C s.heap.objs.size) }:=by
 have e1:(s.heap.push PySem.W.emptyDict).get? s.heap.objs.size=some PySem.W.emptyDict:=ydt s.heap rfl
 have e2:((s.heap.push PySem.W.emptyDict).push (PySem.W.instObj C s.heap.objs.size)).get? (s.heap.objs.size+1)=some (PySem.W.instObj C s.heap.objs.size):=by
   have:=ydt (s.heap.push PySem.W.emptyDict) (o:=PySem.W.instObj C s.heap.objs.size) rfl
   rwa [ydw] at this
 have e3:(s.heap.push PySem.W.emptyDict).Ns s.heap.objs.size (fun _=>none):=⟨PySem.W.emptyDict,#[],_,e1,rfl,(fun e he=>absurd he (by simp)),fun _=>rfl⟩
 have I1:=I.laid (a:=s.heap.objs.size) (o := .own (s.heap.objs.size+1)) (h':=s.heap.push PySem.W.emptyDict) (t':=s.toks) (fun b u q=>ydu _ q) (yba _) ⟨_,e1⟩
 refine I1.laid (a:=s.heap.objs.size+1) (o := .ins C s.heap.objs.size []) (t':=s.toks) (fun b u q=>ydu _ q) (yeh (ydw _ _)) ?_
 have ne:s.heap.objs.size≠s.heap.objs.size+1:=ydx (ycx _)
 refine ⟨by rw [qay ne,qaf],ybz _,ne,e2,fun _=>none,(Heap.Ns1.of_empty e3).at fun o q=>ydu _ q,fun _=>True.intro,fun y hy=>absurd rfl hy⟩
def qre {prog:Program} {w:World} {env:Env} {e:Expr} {f:Str} {pos:Pos} {s:Shared} {Q:Value→Shared→Prop} (hb:attributeBase e f env (eval e env)=eval e env)
   (h:wpAny (model prog w) A (eval e env) (fun o s₁=>wpAny (model prog w) A (getAttr o f true) Q E s₁) E s):wpAny (model prog w) A (eval (.Attribute e f pos) env) Q E s :=
 Attribute_any_ h (by rw [arm_eval_Attribute,hb])
end
def quH (K:PySem.W.Frag) (ta:TE) (f:Str):TE:=fun σ H Q=>ta σ H fun x H1=>∃a C dx fs v,x = .ref a∧H1 a=some (.ins C dx fs)∧Cls K C∧qdQ K C f∧fs.lookup f=some v∧Q v H1
def qtC (K:PySem.W.Frag) (ta tv:TE) (f:Str):TS:=fun D σ H=>tv σ H fun y H1=>ta σ H1 fun x H2=>∃a C dx fs,x = .ref a∧H2 a=some (.ins C dx fs)∧Cls K C∧qdQ K C f∧fs.length<1000 ∧
 D.nx σ (upd H2 a (.ins C dx (qhc f y fs)))
section
variable {X:Cx} {o e value:Expr} {f:Str} {pos pos' tpos:Pos} {ta tv:TE}
def qc7 (he:PE X e ta) (hb:attributeBase e f X.env (eval e X.env)=eval e X.env):PE X (.Attribute e f pos) (quH X.K ta f):=by
 intro pins s σ H Q I h
 refine qre hb (thn (he pins s σ H _ I h) fun u s1 ⟨x,H1,I1,rx,a,C,dx,fs,v,ex,ea,c,n,l,q⟩=>?_)
 subst ex
 obtain rfl:u=Value.ref a:=rx
 exact qkG I1 ea c n l fun u' s2 I2 ru=>⟨v,H1,I2,ru,q⟩
def qph (ha:PE X o ta) (hv:PE X value tv) (hs:swapsWith value (some (.Attribute o f pos')) pos.line X.env=pure false):PS X (.Assign [.Attribute o f pos'] value pos) (qtC X.K ta tv f):=by
 intro pins s σ H D I h
 refine plainObj_wpAny_Assign_Attribute (thn (hv pins s σ H _ I h) fun u s1 ⟨y,H1,I1,ry,q⟩=>thn (ha pins s1 σ H1 _ I1 q) fun ov s2 ⟨x,H2,I2,rx,a,C,dx,fs,ex,ea,c,n,l,q2⟩=>?_) hs
 subst ex
 obtain rfl:ov=Value.ref a:=rx
 exact qks I2 ea c n l ry fun s3 I3=>⟨σ,_,I3,q2⟩
def qql {pl:Sem Bool} {m:Str} {apos:Pos} {args:List Expr} {pins:List (Addr×Obj)} {s:Shared} {σ:St} {H:Hp} {Q:Value→Shared→Prop} {te:TE} (he:PE X e te) (I:Inv X pins σ H s)
   (h:te σ H fun x H1=>∃a C dx fs g,x = .ref a∧H1 a=some (.ins C dx fs)∧Cls X.K C∧qsg X.K C m g∧fs.lookup m=none ∧
     ∀s1,Inv X pins σ H1 s1→wpAny (model X.prog X.w) X.A (callWith pos (.ref g) [.ref a] (backTo pos (starEach args X.env)) (backToKw pos (keywordEach [] X.env))) Q X.xe s1)
   (ht:eval (.Call (.Attribute e m apos) args [] pos) X.env=(do
     let ov ←eval e X.env
     standAt apos.atName
     let (f,first) ←holding [ov] (getMethod ov m pl)
     callWith pos f first (backTo pos (starEach args X.env)) (backToKw pos (keywordEach [] X.env)))) :
   wpAny (model X.prog X.w) X.A (eval (.Call (.Attribute e m apos) args [] pos) X.env) Q X.xe s:=by
 refine PySem.W.methodCall_KW (pl:=pl) (thn (he pins s σ H _ I h) fun u s1 ⟨x,H1,I1,rx,a,C,dx,fs,g,ex,ea,c,k,l,q⟩=>?_) ht
 subst ex
 obtain rfl:u=Value.ref a:=rx
 exact qgg I1 ea c k l (q s1 I1)
end
section
variable {X:Cx} {pins:List (Addr×Obj)} {σ:St} {H:Hp} {s:Shared} {A:Around} {E:Value→Shared→Prop} {Q:Value→Shared→Prop} {c:Value} {b:Bool}
inductive qko (K:PySem.W.Frag) (H:Hp):V→Value→Prop where
 | non:qko K H .non (.type "NoneType")
 | bl (x:Bool):qko K H (.bl x) (.type "bool")
 | int (i:Int):qko K H (.int i) (.type "int")
 | str (x:Str):qko K H (.str x) (.type "str")
 | flt (x:UInt64):qko K H (.flt x) (.type "float")
 | lst {a:Addr} {xs:List V} (e:H a=some (.lst xs)):qko K H (.ref a) (.type "list")
 | frz {a:Addr} {o:Obj} {xs:List V} (e:H a=some (.frz o (.lst xs))):qko K H (.ref a) (.type "list")
 | tup {a:Addr} {xs:List V} (e:H a=some (.tup xs)):qko K H (.ref a) (.type "tuple")
 | dK {a:Addr} {kvs:List (Key×V)} (e:H a=some (.dK kvs)):qko K H (.ref a) (.type "dict")
 | dT {a:Addr} {kvs:List (List Key×V)} (e:H a=some (.dT kvs)):qko K H (.ref a) (.type "dict")
 | ins {a C dx:Addr} {fs:List (Str×V)} (e:H a=some (.ins C dx fs)) (cl:Cls K C) (ha:PySem.W.findIn K (.ref C) "__class__" = some (some (.builtin "object.__class__")))
     (hn:PySem.W.specialIn K (.builtin "object.__class__") "__get__" = some (some (.builtin "getset_descriptor.__get__"))) (htk:PySem.W.takesIn K (.builtin "object.__class__")=some true)
     (hm:PySem.W.mroIn K C (.type "object")=some true):qko K H (.ref a) (.ref C)
def qkR {x:V} {u t:Value} (I:Inv X pins σ H s) (rx:qbb x u) (ty:qko X.K H x t) (e:PySem.W.kitOne X.K t c=some b) (h:∀tk,Q (.bool b) { s with toks:=tk }) :
   wpAny (model X.prog X.w) A (call (.builtin "isinstance") [u,c]) Q E s:=by
 cases ty with
 | non=>cases (show u=Value.none from rx);exact PySem.W.kia_one PySem.W.kitx_none I.kIn True.intro e (fun z=>nomatch z) h
 | bl y=>cases (show u=Value.bool y from rx);exact PySem.W.kia_one PySem.W.kitx_bool I.kIn True.intro e (fun z=>nomatch z) h
 | int i=>obtain ⟨t,q⟩:=(show ∃t,u=Value.int i t from rx);cases q;exact PySem.W.kia_one PySem.W.kitx_int I.kIn True.intro e (fun z=>nomatch z) h
 | str y=>obtain ⟨t,q⟩:=(show ∃t,u=Value.str y t from rx);cases q;exact PySem.W.kia_one PySem.W.kitx_str I.kIn True.intro e (fun z=>nomatch z) h
 | flt y=>obtain ⟨t,q⟩:=(show ∃t,u=Value.float y t from rx);cases q;exact PySem.W.kia_one PySem.W.kitx_float I.kIn True.intro e (fun z=>nomatch z) h
 | @lst a xs ea =>
   cases (show u=Value.ref a from rx)
   obtain ⟨_,_,n,_,h1⟩:=(show qbl X.prog X.w H s.heap a (.lst xs) from I.hok a _ ea)
   exact PySem.W.kia_one PySem.W.kitx_list I.kIn ⟨_,h1,rfl⟩ e (fun z=>nomatch z) h
 | @frz a ob xs ea =>
   cases (show u=Value.ref a from rx)
   obtain ⟨_,_,_,n,_,h1⟩:=(show qbl X.prog X.w H s.heap a (.frz ob (.lst xs)) from I.hok a _ ea)
   exact PySem.W.kia_one PySem.W.kitx_list I.kIn ⟨_,h1,rfl⟩ e (fun z=>nomatch z) h
 | @tup a xs ea =>
   cases (show u=Value.ref a from rx)
   obtain ⟨_,_,_,p⟩:=(show qbl X.prog X.w H s.heap a (.tup xs) from I.hok a _ ea)
   obtain ⟨o,h1,h2,_⟩:=p
   exact PySem.W.kia_one PySem.W.kitx_tuple I.kIn ⟨o,h1,h2⟩ e (fun z=>nomatch z) h
 | @dK a kvs ea =>
   cases (show u=Value.ref a from rx)
   obtain ⟨_,_,vs,_,p⟩:=(show qbl X.prog X.w H s.heap a (.dK kvs) from I.hok a _ ea)
   obtain ⟨o,es,ep,h1,h2,_⟩:=p
   exact PySem.W.kia_one PySem.W.kitx_dict I.kIn ⟨o,h1,h2.1⟩ e (fun z=>nomatch z) h
 | @dT a kvs ea =>
   cases (show u=Value.ref a from rx)
   obtain ⟨_,_,xs,_,o,es,ep,h1,h2,_⟩:=(show qbl X.prog X.w H s.heap a (.dT kvs) from I.hok a _ ea)
   exact PySem.W.kia_one PySem.W.kitx_dict I.kIn ⟨o,h1,h2.1⟩ e (fun z=>nomatch z) h
 | @ins a C dx fs ea cl ha hn htk hm =>
   cases (show u=Value.ref a from rx)
   obtain ⟨mA,O,_⟩:=qhf I.hok ea
   obtain ⟨od,J,_⟩:=O.look
   exact PySem.W.kia_one (PySem.W.kitx_own (cl.get _) cl.hd ha hn htk hm) I.kIn J e (fun z=>nomatch z) h
end
end L2
namespace L2
open PySem PySem.Spec PyProof.Rows
structure qdB (k:Nat) (A:Around):Prop where
 hd:A.handled=none
 dp:A.depth+3*k+5<recursionLimit
 un:A.units+16*k+200<cLine
def qdB.mono {j k:Nat} {A:Around} (r:qdB k A) (h:j≤k):qdB j A:=⟨r.hd,by have:=r.dp;omega,by have:=r.un;omega⟩
def qdB.deeper {k:Nat} {A:Around} (r:qdB (k+1) A) (env:Env):qdB k (A.deeper env) :=
 ⟨r.hd,by have:=r.dp;show A.depth+1+3*k+5<_;omega,by have:=r.un;show A.units+3+16*k+200<_;omega⟩
def qkw {A:Around} {C:Addr} {us:List Value} {kw:List (Str×Value)}:(A.under (.builtin "type.__call__" ⟨.ref C::us,kw⟩)).depth=A.depth+1:=by
 first | rfl | simp [Around.under,Code.weight,Code.isCreation,Code.isGuard,Code.isCaller,Code.frames,Code.isFrame,guardIds]
def qkc {A:Around} {C:Addr} {us:List Value} {kw:List (Str×Value)}:(A.under (.builtin "type.__call__" ⟨.ref C::us,kw⟩)).units=A.units+1:=by
 first | rfl | simp [Around.under,Code.cUnits,Code.frames,Code.isFrame]
def qdB.make {k:Nat} {A:Around} (r:qdB (k+1) A) (C:Addr) (us:List Value) (kw:List (Str×Value)):qdB k (A.under (.builtin "type.__call__" ⟨.ref C::us,kw⟩)) :=
 ⟨r.hd,by have:=r.dp;rw [qkw];omega,by have:=r.un;rw [qkc];omega⟩
def qdB.depth {k:Nat} {A:Around} (r:qdB k A):A.depth<recursionLimit:=by have:=r.dp;omega
def qdB.units {k:Nat} {A:Around} (r:qdB k A):A.units+64<cLine:=by have:=r.un;omega
def qdB.units0 {k:Nat} {A:Around} (r:qdB k A):A.units<cLine:=by have:=r.un;omega
def qtp:TA:=fun _ H Q=>Q [] H
def qdL (ta:TE) (tr:TA):TA:=fun σ H Q=>ta σ H fun x H1=>tr σ H1 fun xs H2=>Q (x::xs) H2
section
variable {X:Cx} {e:Expr} {es:List Expr} {te:TE} {t:TA} {pos:Pos}
def qab:PA X [] qtp:=fun _ _ _ _ H Q I h=>Calls.spliced_nil ⟨[],H,I,.nil,h⟩
def qaa (ha:PE X e te) (hr:PA X es t) (hs:starEach (e::es) X.env=(false,eval e X.env)::starEach es X.env:=by rfl):PA X (e::es) (qdL te t):=by
 intro pos pins s σ H Q I h
 rw [hs]
 show wpAny _ _ (spliced ((false,eval e X.env)::backTo pos (starEach es X.env))) _ _ s
 refine Calls.spliced_cons (thn (ha pins s σ H _ I h) fun u s1 ⟨x,H1,I1,r1,q1⟩=>?_)
 exact thn (hr pos pins s1 σ H1 _ I1 q1) fun us s2 ⟨xs,H2,I2,r2,q2⟩=>⟨x::xs,H2,I2,.cons r1 r2,q2⟩
def quB (t:TA):TE:=fun σ H Q=>t σ H fun xs H1=>xs.length≤sizeLine∧∀p,H1 p=none→Q (.ref p) (upd H1 p (.tup xs))
def quu (t:TA):TE:=fun σ H Q=>t σ H fun xs H1=>xs.length≤sizeLine∧∀p,H1 p=none→Q (.ref p) (upd H1 p (.lst xs))
def qa5 {x1} (h:PA X es t):PE X (.Tuple es x1 pos) (quB t):=by
 intro pins s σ H Q I hq
 refine wpAny_Tuple_spliced (thn (h pos pins s σ H _ I hq) fun us s1 ⟨xs,H1,I1,r,z,q⟩=>⟨by rw [←r.length];exact z,?_⟩)
 have hf:H1 s1.heap.objs.size=none:=I1.hok.fresh (yba _)
 refine ⟨.ref s1.heap.objs.size,upd H1 s1.heap.objs.size (.tup xs),I1.laid (t':=s1.toks) (fun b u e=>ydu _ e) (yba _) ?_,rfl,q _ hf⟩
 exact ⟨z,us,r,⟨_,ydt _ rfl,rfl,_,rfl⟩⟩
def qaH (h:PA X es t):PE X (.List es pos) (quu t):=by
 intro pins s σ H Q I hq
 refine wpAny_List_spliced (thn (h pos pins s σ H _ I hq) fun us s1 ⟨xs,H1,I1,r,z,q⟩=>⟨by rw [←r.length];exact z,?_⟩)
 have hf:H1 s1.heap.objs.size=none:=I1.hok.fresh (yba _)
 refine ⟨.ref s1.heap.objs.size,upd H1 s1.heap.objs.size (.lst xs),I1.laid (t':=s1.toks) (fun b u e=>ydu _ e) (yba _) ?_,rfl,q _ hf⟩
 exact ⟨z,us,0,r,ydt _ rfl⟩
end
abbrev Sp:=List V→Hp→VK→XK→Prop
abbrev CXT:=List Env→Hp→Shared→XK→Value→Shared→Prop
structure qri (P:Program) (w:World) (K:PySem.W.Frag) (mg:Str→Option Value) (base:Heap) (A:Around) (outer:List Env) (s:Shared) (H:Hp):Prop where
 frames:A.frames=some outer
 mod:Mod K mg base
 bs:∀b o,base.get? b=some o→s.heap.get? b=some o∧H b=none
 bsz:base.objs.size≤s.heap.objs.size
 funs:s.heap.FunFrames base outer
 frf:∀b∈frs outer,H b=none
 hok:HOk P w H s.heap
 bare:AllBare s.gens
def CE (outer:List Env) (P:Program) (w:World) (H:Hp) (s:Shared) (Q:VK) (u:Value) (s':Shared):Prop :=
 ∃v H',s'.os=s.os∧AllBare s'.gens∧Un (frs outer) [] H H' s.heap s'.heap∧HOk P w H' s'.heap∧qbb v u∧Q v H'
def CR (CX:CXT) (outer:List Env) (P:Program) (w:World) (H:Hp) (s:Shared) (Q:VK) (E:XK) (r:Result) (s':Shared):Prop :=
 match r with
 | .ok (.ret u)=>CE outer P w H s Q u s'
 | .ok _=>False
 | .error e=>CX outer H s E e s'
structure qaQ (P:Program) (w:World) (K:PySem.W.Frag) (mg:Str→Option Value) (base:Heap) (CX:CXT) (k:Nat) (f:Addr) (fd:FuncData) (ps:List Str) (sp:Sp):Prop where
 len:∀vs H Q E,sp vs H Q E→vs.length=ps.length
 run:∀(A:Around) (outer:List Env) (s:Shared) (H:Hp) (args:Args) (us:List Value) (vs:List V) (Q:VK) (E:XK),qdB k A→qri P w K mg base A outer s H→BindsTo s fd args (ps.zip us)→qaV vs us→sp vs H Q E →
   codeAny (model P w) A (.call (.ref f) args) (CR CX outer P w H s Q E) s
def qri.make {P:Program} {w:World} {K:PySem.W.Frag} {mg:Str→Option Value} {base:Heap} {A:Around} {outer:List Env} {s:Shared} {H:Hp} (e:qri P w K mg base A outer s H) (C:Addr) (us:List Value) (kw:List (Str×Value)) :
 qri P w K mg base (A.under (.builtin "type.__call__" ⟨.ref C::us,kw⟩)) outer s H:=⟨by first | exact e.frames | (simpa [Around.under,Code.envs,Code.isFrame,pushEnvs] using e.frames),e.mod,e.bs,e.bsz,e.funs,e.frf,e.hok,e.bare⟩
section
variable {X:Cx} {pins:List (Addr×Obj)} {σ:St} {H:Hp} {s s':Shared}
def Inv.env0 (I:Inv X pins σ H s):qri X.prog X.w X.K X.mg X.base X.A X.stack s H :=
 ⟨I.ok.frames,I.ok.mod,I.bs,ydc I.ok.bsz I.sz,I.stack,I.stkFree,I.hok,I.bare⟩
def Inv.after {Q:VK} {u:Value} (I:Inv X pins σ H s) (h:CE X.stack X.prog X.w H s Q u s'):EP X pins σ Q u s':=by
 obtain ⟨v,H',os,bare,un,hok,r,q⟩:=h
 obtain ⟨hh,g,d,t,os'⟩:=s'
 obtain rfl:os'=s.os:=os
 exact ⟨v,H',I.call (h':=hh) (g':=g) (d':=d) (t':=t) (ch:=[]) un hok bare (fun b z=>absurd z (by simp)),r,q⟩
end
def qnL (sp:Sp) (dvs:List V) (E:XK) (t:TA):TE:=fun σ H Q=>t σ H fun vs H1=>sp (vs++dvs) H1 Q E
def qra (C:Addr) (m:Str) (sp:Sp) (dvs:List V) (E:XK) (ta:TE) (t:TA):TE:=fun σ H Q=>ta σ H fun x H1=>∃a dx fs,x = .ref a∧H1 a=some (.ins C dx fs)∧fs.lookup m=none ∧
 t σ H1 fun vs H2=>sp (x::(vs++dvs)) H2 Q E
def qqm (C:Addr) (sp:Sp) (dvs:List V) (E:XK) (t:TA):TE:=fun σ H Q=>t σ H fun vs H1=>∀x dx,H1 x=none→H1 dx=none→dx≠x →
 sp (.ref x::(vs++dvs)) (upd (upd H1 dx (.own x)) x (.ins C dx [])) (fun v H2=>v = .non∧Q (.ref x) H2) E
def qdx (K:PySem.W.Frag) (fd:FuncData) (ps:List Str) (ds:List Value):Prop :=
 ∀(s:Shared) (us:List Value),K.In s.heap→(us++ds).length=ps.length→BindsTo s fd ⟨us,[]⟩ (ps.zip (us++ds))
def qdx.all {K:PySem.W.Frag} {fd:FuncData} {ps:List Str} (h:∀us:List Value,us.length=ps.length→bindArgs fd ⟨us,[]⟩=pure (ps.zip us)):qdx K fd ps []:=fun s us _ hl=>by
 rw [yed] at hl ⊢
 exact .of_eq (h us hl)
def qf8 (CX:CXT) (X:Cx) (E:XK):Prop:=∀(pins:List (Addr×Obj)) (σ:St) (H:Hp) (s:Shared) (e:Value) (s':Shared),Inv X pins σ H s→CX X.stack H s E e s'→X.xe e s'
section
variable {X:Cx} {CX:CXT} {k:Nat} {f C:Addr} {fd:FuncData} {ps:List Str} {sp:Sp} {dvs:List V} {ds:List Value} {E:XK} {x m:Str} {p pos apos:Pos} {e o:Expr} {es:List Expr} {ta:TE} {t:TA}
def qo8 {pins:List (Addr×Obj)} {σ:St} {H:Hp} {s:Shared} {Q:VK} {us:List Value} {vs:List V} (F:qaQ X.prog X.w X.K X.mg X.base CX k f fd ps sp) (hr:qdB k X.A) (hb:qdx X.K fd ps ds) (hd:qaV dvs ds) (hx:qf8 CX X E)
   (I:Inv X pins σ H s) (r:qaV vs us) (h:sp (vs++dvs) H Q E):wpAny (model X.prog X.w) X.A (call (.ref f) us) (EP X pins σ Q) X.xe s:=by
 have r2:qaV (vs++dvs) (us++ds):=r.append hd
 have hl:(us++ds).length=ps.length:=by rw [←r2.length];exact F.len _ _ _ _ h
 refine wpAny_call (codeAny_mono (F.run X.A X.stack s H ⟨us,[]⟩ (us++ds) (vs++dvs) Q E hr I.env0 (hb s us I.kIn hl) r2 h) fun r s' hq=>?_)
 cases r with
 | error e=>exact hx pins σ H s e s' I hq
 | ok fl =>
   cases fl with
   | ret u=>exact I.after hq
   | next=>exact False.elim hq
   | brk=>exact False.elim hq
   | cont=>exact False.elim hq
def qqJ (F:qaQ X.prog X.w X.K X.mg X.base CX k f fd ps sp) (hr:qdB k X.A) (hg:Gl X x) (hm:X.mg x=some (.ref f)) (hk:PySem.W.keepIn X.K (.ref f)=true) (hb:qdx X.K fd ps ds) (hd:qaV dvs ds) (hx:qf8 CX X E)
   (ha:PA X (e::es) t) (hdb:(x==("__debug__" : Str))=false:=by decide) (he:starEach (e::es) X.env=(false,eval e X.env)::starEach es X.env:=by rfl) (hpl:(backTo pos (starEach es X.env)).any (·.1)=false:=by rfl) :
   PE X (.Call (.Name x p) (e::es) [] pos) (qnL sp dvs E t):=by
 intro pins s σ H Q I h
 refine wpAny_Call_Name_kw (qi7 I hg hm ?_ hdb)
 refine PySem.W.callWith_K (h₀:=X.base) I.ok.mod.kin hk (thn (ha pos pins s σ H _ I h) fun us s1 ⟨vs,H1,I1,r,q⟩=>⟨I1.kIn,?_⟩) he hpl
 exact qo8 F hr hb hd hx I1 r q
def qpX {pl:Sem Bool} (he:PE X o ta) (c:Cls X.K C) (hm:qsg X.K C m f) (F:qaQ X.prog X.w X.K X.mg X.base CX k f fd ps sp) (hr:qdB k X.A) (hb:qdx X.K fd ps ds) (hd:qaV dvs ds) (hx:qf8 CX X E) (ha:PA X (e::es) t)
   (hst:starEach (e::es) X.env=(false,eval e X.env)::starEach es X.env:=by rfl) (hpl:(backTo pos (starEach es X.env)).any (·.1)=false:=by rfl)
   (ht:eval (.Call (.Attribute o m apos) (e::es) [] pos) X.env=(do
     let ov ←eval o X.env
     standAt apos.atName
     let (f,first) ←holding [ov] (getMethod ov m pl)
     callWith pos f first (backTo pos (starEach (e::es) X.env)) (backToKw pos (keywordEach [] X.env))):=by rfl) :
   PE X (.Call (.Attribute o m apos) (e::es) [] pos) (qra C m sp dvs E ta t):=by
 intro pins s σ H Q I h
 refine PySem.W.methodCall_KW (pl:=pl) (thn (he pins s σ H _ I h) fun u s1 ⟨x,H1,I1,rx,a,dx,fs,ex,ea,l,q⟩=>?_) ht
 subst ex
 obtain rfl:u=Value.ref a:=rx
 refine qgg I1 ea c hm l ?_
 refine PySem.W.callWith_K (first:=[.ref a]) (h₀:=X.base) I.ok.mod.kin hm.kp (thn (ha pos pins s1 σ H1 _ I1 q) fun us s2 ⟨vs,H2,I2,r,q2⟩=>⟨I2.kIn,?_⟩) hst hpl
 exact qo8 (us := .ref a::us) (vs := .ref a::vs) F hr hb hd hx I2 (.cons rfl r) q2
structure Mk (K:PySem.W.Frag) (C f:Addr):Prop where
 makes:PySem.W.makesIn K C=true
 init:PySem.W.findIn K (.ref C) "__init__" = some (some (.ref f))
 fn:PySem.W.isFn K (.ref f)=true
 kp:PySem.W.keepIn K (.ref C)=true
def qoH {pins:List (Addr×Obj)} {σ:St} {H:Hp} {s:Shared} {Q:VK} {us:List Value} {vs:List V} (M:Mk X.K C f) (F:qaQ X.prog X.w X.K X.mg X.base CX k f fd ps sp) (hr:qdB (k+1) X.A) (hb:qdx X.K fd ps ds) (hd:qaV dvs ds)
   (hx:qf8 CX X E) (I:Inv X pins σ H s) (r:qaV vs us)
   (h:∀x dx,H x=none→H dx=none→dx≠x→sp (.ref x::(vs++dvs)) (upd (upd H dx (.own x)) x (.ins C dx [])) (fun v H2=>v = .non∧Q (.ref x) H2) E) :
   wpAny (model X.prog X.w) X.A (call (.ref C) us) (EP X pins σ Q) X.xe s:=by
 have hq:=h (s.heap.objs.size+1) s.heap.objs.size (I.hok.fresh (ycw _)) (I.hok.fresh (yba _)) (ydx (ycx _))
 have I2:=Inv.made (C:=C) I
 have r2:qaV (V.ref (s.heap.objs.size+1)::(vs++dvs)) (Value.ref (s.heap.objs.size+1)::(us++ds)) := .cons rfl (r.append hd)
 have hl:(Value.ref (s.heap.objs.size+1)::us++ds).length=ps.length:=by
   have e:=r2.length
   rw [F.len _ _ _ _ hq] at e
   exact e.symm
 refine wpAny_call (qnW (f:=f) I.kIn M.makes M.init (beq_iff_eq.mp M.fn) (codeAny_mono (F.run _ X.stack _ _ ⟨Value.ref (s.heap.objs.size+1)::us,[]⟩ (Value.ref (s.heap.objs.size+1)::(us++ds)) _ _ E (hr.make C us [])
   (I2.env0.make C us []) (hb _ (Value.ref (s.heap.objs.size+1)::us) I2.kIn hl) r2 hq) fun r s' hq'=>?_))
 cases r with
 | error e=>exact hx pins σ _ _ e s' I2 hq'
 | ok fl =>
   cases fl with
   | ret u =>
     obtain ⟨v,H',I3,rv,ev,q3⟩:=I2.after hq'
     subst ev
     exact ⟨rv,⟨V.ref (s.heap.objs.size+1),H',I3,rfl,q3⟩⟩
   | next=>exact False.elim hq'
   | brk=>exact False.elim hq'
   | cont=>exact False.elim hq'
def qqM (M:Mk X.K C f) (F:qaQ X.prog X.w X.K X.mg X.base CX k f fd ps sp) (hr:qdB (k+1) X.A) (hg:Gl X x) (hm:X.mg x=some (.ref C)) (hb:qdx X.K fd ps ds) (hd:qaV dvs ds) (hx:qf8 CX X E)
   (ha:PA X (e::es) t) (hdb:(x==("__debug__" : Str))=false:=by decide) (he:starEach (e::es) X.env=(false,eval e X.env)::starEach es X.env:=by rfl) (hpl:(backTo pos (starEach es X.env)).any (·.1)=false:=by rfl) :
   PE X (.Call (.Name x p) (e::es) [] pos) (qqm C sp dvs E t):=by
 intro pins s σ H Q I h
 refine wpAny_Call_Name_kw (qi7 I hg hm ?_ hdb)
 refine PySem.W.callWith_K (h₀:=X.base) I.ok.mod.kin M.kp (thn (ha pos pins s σ H _ I h) fun us s1 ⟨vs,H1,I1,r,q⟩=>⟨I1.kIn,?_⟩) he hpl
 exact qoH M F hr hb hd hx I1 r q
end
def PK (X:Cx) (kws:List Keyword) (t:TA):Prop :=
 ∀(pos:Pos) (pins:List (Addr×Obj)) (s:Shared) (σ:St) (H:Hp) (Q:List V→Hp→Prop),Inv X pins σ H s→t σ H Q→wpAny (model X.prog X.w) X.A (evalAll ((backToKw pos (keywordEach kws X.env)).map (·.2))) (AP X pins σ Q) X.xe s
section
variable {X:Cx} {CX:CXT} {k:Nat} {f C:Addr} {fd:FuncData} {ps ks:List Str} {sp:Sp} {E:XK} {x m:Str} {p pos apos kpos:Pos} {e o:Expr} {es:List Expr} {kws:List Keyword} {te ta:TE} {t tk:TA} {nm:Option Str}
def qo6:PK X [] qtp:=fun _ _ _ _ H Q I h=>wpAny_evalAll_nil ⟨[],H,I,.nil,h⟩
def qmZ (ha:PE X e te) (hr:PK X kws t):PK X (⟨nm,e,kpos⟩::kws) (qdL te t):=by
 intro pos pins s σ H Q I h
 show wpAny _ _ (evalAll ((do let v ←eval e X.env;standAt pos;pure v)::(backToKw pos (keywordEach kws X.env)).map (·.2))) _ _ s
 refine wpAny_evalAll_cons (wpAny_bind (thn (ha pins s σ H _ I h) fun u s1 ⟨x,H1,I1,r1,q1⟩=>wpAny_bind (wpAny_standAt (wpAny_pure ?_))))
 exact thn (hr pos pins s1 σ H1 _ I1 q1) fun us s2 ⟨xs,H2,I2,r2,q2⟩=>⟨x::xs,H2,I2,.cons r1 r2,q2⟩
structure quw (K:PySem.W.Frag) (fd:FuncData) (ps ks:List Str) (g:List Value→List Value→List Value) (gV:List V→List V→List V):Prop where
 to:∀(s:Shared) (us ws:List Value),K.In s.heap→(g us ws).length=ps.length→BindsTo s fd ⟨us,ks.zip ws⟩ (ps.zip (g us ws))
 rel:∀{vs:List V} {us:List Value} {zs:List V} {ws:List Value},qaV vs us→qaV zs ws→qaV (gV vs zs) (g us ws)
variable {g:List Value→List Value→List Value} {gV:List V→List V→List V}
end
structure qam (N P:List Str) (sc:Scope):Prop where
 kind:sc.kind = .function
 co:sc.isCoroutine=false
 gen:sc.isGenerator=false
 nd:N.Nodup
 pre:N.take P.length=P
 par:∀x∈P,sc.names.lookup x=some .local∨sc.names.lookup x=some .cell
 nofree:∀y∈sc.names,y.2 ≠ .free
def qh8 {kindOf:Str→Option NameKind} {x:Str}:∀{binds:List (Str×Value)} {m:Str→Option Value},(∀v,(x,v)∉binds)→bindL kindOf binds m x=m x
 | [],_,_=>rfl
 | (n,v)::r,m,h=>by
   unfold bindL
   rw [qh8 fun w hw=>h w (ybh _ hw)]
   split
   · have:x≠n:=by rintro rfl;exact h v ybe
     simp [this]
   · rfl
def qhD {kindOf:Str→Option NameKind} {x:Str}:∀{binds:List (Str×Value)} {m:Str→Option Value},(∀v,(x,v)∉binds)→bindC kindOf binds m x=m x
 | [],_,_=>rfl
 | (n,v)::r,m,h=>by
   unfold bindC
   rw [qhD fun w hw=>h w (ybh _ hw)]
   split
   · rfl
   · have:x≠n:=by rintro rfl;exact h v ybe
     simp [this]
def qhJ {kindOf:Str→Option NameKind} {x:Str} {v:Value}:∀{P:List Str} {vs:List Value} {i:Nat} {m:Str→Option Value},P.Nodup→P[i]?=some x→vs[i]?=some v→kindOf x=some .local →
   bindL kindOf (P.zip vs) m x=some v
 | [],_,_,_,_,h,_,_=>by simp at h
 | _::_,[],_,_,_,_,h,_=>by simp at h
 | p::P,w::vs,0,m,nd,h1,h2,hk=>by
   simp at h1 h2;subst h1;subst h2
   show bindL kindOf ((p,w)::P.zip vs) m p=_
   unfold bindL
   rw [qh8 fun v hv=>(yca.mp nd).1 (yez hv).1,if_pos hk]
   simp
 | p::P,w::vs,i+1,m,nd,h1,h2,hk=>by
   show bindL kindOf ((p,w)::P.zip vs) m x=_
   unfold bindL
   exact qhJ (i:=i) (yca.mp nd).2 (by simpa using h1) (by simpa using h2) hk
def qhy {kindOf:Str→Option NameKind} {x:Str} {v:Value}:∀{P:List Str} {vs:List Value} {i:Nat} {m:Str→Option Value},P.Nodup→P[i]?=some x→vs[i]?=some v→kindOf x≠some .local →
   bindC kindOf (P.zip vs) m x=some v
 | [],_,_,_,_,h,_,_=>by simp at h
 | _::_,[],_,_,_,_,h,_=>by simp at h
 | p::P,w::vs,0,m,nd,h1,h2,hk=>by
   simp at h1 h2;subst h1;subst h2
   show bindC kindOf ((p,w)::P.zip vs) m p=_
   unfold bindC
   rw [qhD fun v hv=>(yca.mp nd).1 (yez hv).1,if_neg hk]
   simp
 | p::P,w::vs,i+1,m,nd,h1,h2,hk=>by
   show bindC kindOf ((p,w)::P.zip vs) m x=_
   unfold bindC
   exact qhy (i:=i) (yca.mp nd).2 (by simpa using h1) (by simpa using h2) hk
def qhq (N:List Str) (vs:List V):St:=vs.map some++List.replicate (N.length-vs.length) none
def qqq (CX:CXT) (P:Program) (w:World) (K:PySem.W.Frag) (mg:Str→Option Value) (base:Heap) (N:List Str) (qual:Str) (scope:Scope) (f:Addr) (cd:Value) (A:Around) (outer:List Env) (s:Shared) (H:Hp) (E:XK):Cx where
 prog:=P
 w:=w
 K:=K
 mg:=mg
 base:=base
 A:=A.deeper (envOfC qual scope s.heap.objs.size f cd)
 N:=N
 s₀:=s
 H₀:=H
 env:=envOfC qual scope s.heap.objs.size f cd
 outer:=outer
 stack:=envOfC qual scope s.heap.objs.size f cd::outer
 ex:=[]
 calm:=true
 fn:=fun _=>true
 pn:=[]
 xe:=fun e s'=>wpAny (model P w) (A.deeper (envOfC qual scope s.heap.objs.size f cd)) (leaving (envOfC qual scope s.heap.objs.size f cd) e) (fun _ s''=>CX outer H s E e s'') (fun e' s''=>CX outer H s E e' s'') s'
def qjp {sc:Scope} {n:Nat} {x:Str} (h:sc.names.lookup x=some .cell):∃c,(cellsFrom n sc.names []).lookup x=some c:=by
 have q:=PySem.W.cellsFrom_some sc.names n [] (.inl h)
 exact yfa.mp q
def qk3 {CX:CXT} {P:Program} {w:World} {K:PySem.W.Frag} {mg:Str→Option Value} {base:Heap} {N ps:List Str} {qual:Str} {scope:Scope} {f:Addr} {cd:Value} {A:Around} {outer:List Env} {s s1:Shared} {H:Hp} {E:XK} {us:List Value} {vs:List V}
   (S:qam N ps scope) (hd:A.handled=none) (e0:qri P w K mg base A outer s H) (hl:vs.length=ps.length) (r:qaV vs us)
   (x:InCallC s s.heap.objs.size (bindL (envOfC qual scope s.heap.objs.size f cd).kindOf (ps.zip us) fun _=>none) (cellsFrom (s.heap.objs.size+1) scope.names []) (bindC (envOfC qual scope s.heap.objs.size f cd).kindOf (ps.zip us) fun _=>none) s1) :
   Inv (qqq CX P w K mg base N qual scope f cd A outer s H E) [] (qhq N vs) H s1:=by
 have hpl:ps.length≤N.length:=by have:=congrArg List.length S.pre;rw [yfb] at this;omega
 obtain ⟨h1,tk,rfl,hk⟩:=x.done
 have noA:∀b:Addr,b∉(qqq CX P w K mg base N qual scope f cd A outer s H E).ex:=fun b z=>absurd (show b∈([]:List Addr) from z) (by simp)
 refine ⟨⟨e0.mod,S.kind,rfl,rfl,yba _,fun y z c h1 h2=>?_,fun y hy=>?_,fun y c _ h=>?_,fun _=>hd,Around.frames_deeper e0.frames,.inr ⟨rfl,rfl⟩,fun b z=>absurd z (noA b),e0.bs,e0.bsz,fun b _ _=>noA b,fun b z=>absurd z (noA b),e0.funs,e0.frf⟩,
   rfl,e0.bare,Un.kept hk,⟨_,x.toInCall.ns,fun i y v h1 h2 h3=>?_⟩,fun y c h=>⟨_,x.cell y c h⟩,e0.hok.fresh (yba _),fun y c h=>?_,fun p hp=>absurd (show p∈([]:List (Addr×Obj)) from hp) (by simp),e0.hok.kept hk,?_⟩
 · exact name_of_addr x.apart (PySem.mem_of_lookup h1) (PySem.mem_of_lookup h2)
 · have hy:scope.names.lookup y=some .cell∨scope.names.lookup y=some .free:=hy
   rcases hy with hy | hy
   · exact qjp hy
   · exact absurd rfl (S.nofree _ (PySem.mem_of_lookup hy))
 · exact ydb (x.above y c (PySem.mem_of_lookup h))
 · have hi:i<vs.length:=by
     unfold qhq at h2
     by_cases hi:i<vs.length
     · exact hi
     · rw [yfc (by simpa using hi)] at h2
       rw [yfd] at h2
       split at h2<;>cases h2
   have ha:vs[i]?=some v:=by
     unfold qhq at h2
     rw [yfe (by simpa using hi),yco] at h2
     cases e:vs[i]? with
     | none=>rw [e] at h2;cases h2
     | some a=>rw [e] at h2;cases h2;rfl
   obtain ⟨u,hu,rv⟩:=r.get ha
   have hp:ps[i]?=some y:=by
     rw [←S.pre,List.getElem?_take_of_lt (by omega)];exact h1
   have ndP:ps.Nodup:=by rw [←S.pre];exact S.nd.sublist (List.take_sublist _ _)
   refine ⟨u,rv,?_⟩
   rcases S.par y (yck hp) with k | k
   · exact .inl ⟨k,qhJ ndP hp hu k⟩
   · obtain ⟨c,e⟩:=qjp (n:=s.heap.objs.size+1) k
     refine .inr ⟨.inl k,c,e,?_⟩
     have q:=x.cell y c e
     rw [qhy ndP hp hu (by show scope.names.lookup y≠_;rw [k];decide)] at q
     exact q
 · exact e0.hok.fresh (ydb (x.above y c (PySem.mem_of_lookup h)))
 · unfold qhq
   show _=N.length
   rw [ydq,ycd,yff]
   omega
def qup {CX:CXT} {P:Program} {w:World} {K:PySem.W.Frag} {mg:Str→Option Value} {base:Heap} {k:Nat} {f:Addr} {name qual:Str} {params:Arguments} {body:List Stmt} {scope:Scope} {dV kV doc pm cdv ct oc:Value} {an od:Option Addr}
   {osl:Array (Option Value)} {N ps:List Str} {sp:Sp} (lk:K.lookup f=some ⟨oc,od,.func (PySem.W.fnOf name qual params body scope dV kV doc pm an cdv ct),osl⟩) (hcd:PySem.W.codeIn K cdv qual=true) (S:qam N ps scope)
   (len:∀vs H Q E,sp vs H Q E→vs.length=ps.length)
   (hbody:∀(A:Around) (outer:List Env) (s:Shared) (H:Hp) (vs:List V) (Q:VK) (E:XK),qdB k (A.deeper (envOfC qual scope s.heap.objs.size f cdv))→sp vs H Q E →
     ∃t,PSs (qqq CX P w K mg base N qual scope f cdv A outer s H E) body t∧t { nx:=fun _ H'=>Q .non H',rt:=Q } (qhq N vs) H) :
   qaQ P w K mg base CX (k+1) f (PySem.W.fnOf name qual params body scope dV kV doc pm an cdv ct) ps sp:=by
 refine ⟨len,fun A outer s H args us vs Q E hr e0 hb r hsp=>?_⟩
 have hl:=len _ _ _ _ hsp
 have KX:K.In s.heap:=e0.mod.kin.keeps fun b o e=>(e0.bs b o e).1
 have lim:s.heap.NoLimit:=e0.mod.nolimit.keeps fun b o e=>(e0.bs b o e).1
 have hkind:∀y∈ps.zip us,scope.names.lookup y.1=some .local∨(scope.names.lookup y.1=some .cell∧((cellsFrom (s.heap.objs.size+1) scope.names []).lookup y.1).isSome=true):=fun ⟨n,v⟩ hy=>by
   rcases S.par n (yez hy).1 with q | q
   · exact .inl q
   · exact .inr ⟨q,PySem.W.cellsFrom_some _ _ _ (.inl q)⟩
 refine codeAny_call_function hr.depth (KX _ _ lk) rfl S.co S.gen rfl (PySem.W.codeRec_of KX hcd) (hb _ _ _ _ ?_)
 refine wpAny_newFunctionEnv_cells S.kind hkind fun env he s1 x=>?_
 subst he
 refine ⟨lim.keeps x.toInCall.keep,codeAny_func ?_⟩
 obtain ⟨t,ht,hq⟩:=hbody A outer s H vs Q E (hr.deeper _) hsp
 have I:Inv (qqq CX P w K mg base N qual scope f cdv A outer s H E) [] (qhq N vs) H s1:=qk3 S hr.hd e0 hl r x
 refine wpAny_mono (ht [] s1 (qhq N vs) H _ I hq) (fun fl s' hs=>?_) fun e s' hs=>hs
 have fin:∀{σ':St} {H':Hp} {v:V} {u:Value},Inv (qqq CX P w K mg base N qual scope f cdv A outer s H E) [] σ' H' s'→qbb v u→Q v H'→CE outer P w H s Q u s' :=
   fun {σ' H' v u} J rv q=>⟨v,H',J.os,J.bare,J.base,J.hok,rv,q⟩
 cases fl with
 | ret u =>
   obtain ⟨v,σ',H',J,rv,q⟩:=hs
   exact fin J rv q
 | next =>
   obtain ⟨σ',H',J,q⟩:=hs
   exact fin (v:=V.non) (u:=Value.none) J rfl q
 | brk =>
   obtain ⟨_,_,_,q⟩:=hs
   exact False.elim q
 | cont =>
   obtain ⟨_,_,_,q⟩:=hs
   exact False.elim q
end L2
namespace L2
open PySem PySem.Spec PyProof.Rows
section
variable {X:Cx} {x:Str} {p pos:Pos} {e:Expr} {es:List Expr} {t:TA} {id T:String} {r:List V→Hp→VK→Prop}
def tCB (r:List V→Hp→VK→Prop) (t:TA):TE:=fun σ H Q=>t σ H fun vs H1=>r vs H1 Q
def qav (hc:qb7 X (.builtin id) r) (hg:Gl X x) (hm:X.mg x=none) (hv:bootBuiltins x=some (.builtin id)) (ha:PA X (e::es) t) (hn:x ≠ "__name__" := by decide) (hdb:(x==("__debug__" : Str))=false:=by decide)
   (he:starEach (e::es) X.env=(false,eval e X.env)::starEach es X.env:=by rfl) (hpl:(backTo pos (starEach es X.env)).any (·.1)=false:=by rfl):PE X (.Call (.Name x p) (e::es) [] pos) (tCB r t):=by
 intro pins s σ H Q I h
 refine wpAny_Call_Name_kw (qda I hg hm hv ?_ hn hdb)
 exact PyProof.Rows.callWith_builtin1 (thn (ha pos pins s σ H _ I h) fun us s1 ⟨vs,H1,I1,r1,q1⟩=>hc pins s1 σ H1 vs us Q I1 r1 q1) he hpl
def qaT (hc:qb7 X (.type T) r) (hg:Gl X x) (hm:X.mg x=none) (hv:bootBuiltins x=some (.type T)) (ha:PA X (e::es) t) (hn:x ≠ "__name__" := by decide) (hdb:(x==("__debug__" : Str))=false:=by decide)
   (he:starEach (e::es) X.env=(false,eval e X.env)::starEach es X.env:=by rfl) (hpl:(backTo pos (starEach es X.env)).any (·.1)=false:=by rfl):PE X (.Call (.Name x p) (e::es) [] pos) (tCB r t):=by
 intro pins s σ H Q I h
 refine wpAny_Call_Name_kw (qda I hg hm hv ?_ hn hdb)
 exact PyProof.Rows.callWith_type1 (thn (ha pos pins s σ H _ I h) fun us s1 ⟨vs,H1,I1,r1,q1⟩=>hc pins s1 σ H1 vs us Q I1 r1 q1) he hpl
end
end L2
namespace HT
open PySem PyProof.Rows
section
open PySem.SeqAt
open PySem.AutoSeq1 (wpAny_loadPart')
open PySem.MeetsSeq PySem.MeetsSeq2 PySem.MeetsSeq3
end
section
variable {prog:Program} {w:World} {A:Around} {E:Value→Shared→Prop} {s:Shared}
def sIx (n d:Nat):Option Int→Nat
 | none=>d
 | some v=>if v<0 then (v+(n:Int)).toNat else min v.toNat n
def sIx_nat (n d k:Nat):sIx n d (some (k:Int))=min k n:=by
 show (if (k:Int)<0 then ((k:Int)+(n:Int)).toNat else min (k:Int).toNat n)=min k n
 rw [if_neg (by omega),yfg]
def qsK (n d:Nat) (hd:d≤n) (o:Option Int):sIx n d o≤n:=by
 cases o with
 | none=>exact hd
 | some v =>
   show (if v<0 then (v+(n:Int)).toNat else min v.toNat n)≤n
   by_cases hv:v<0
   · rw [if_pos hv];omega
   · rw [if_neg hv];exact Nat.min_le_right _ _
def qmh (v:Int) (n d:Nat):(if v<0 then max (v+(n:Int)) 0 else min v (n:Int))=((sIx n d (some v):Nat):Int):=by
 show (if v<0 then max (v+(n:Int)) 0 else min v (n:Int))=(((if v<0 then (v+(n:Int)).toNat else min v.toNat n):Nat):Int)
 by_cases hv:v<0
 · simp only [if_pos hv];omega
 · simp only [if_neg hv];omega
def qkn (lo hi:Option Int) (n:Nat):Builtin.Slice.sliceAdjust lo hi 1 (n:Int)=(((sIx n 0 lo:Nat):Int),((sIx n n hi:Nat):Int)):=by
 have h1:¬((1:Int)<0):=by omega
 unfold Builtin.Slice.sliceAdjust
 simp only [h1,if_false]
 refine Prod.ext ?_ ?_
 · cases lo with
   | none=>rfl
   | some v=>exact qmh v n 0
 · cases hi with
   | none=>rfl
   | some v=>exact qmh v n n
def qkp (i j:Nat):Builtin.Slice.slicePlaces (i:Int) (j:Int) 1=j-i:=by
 unfold Builtin.Slice.slicePlaces
 have h1:(1:Int)>0:=by omega
 simp only [h1,if_true,Int.ediv_one]
 split<;>omega
def qf9 {v:Value} {o:Option Int} {Q:Option Int→Shared→Prop} (p:IsPart v o) (h:Q o s):wpAny (model prog w) A (Builtin.Slice.slicePartIndex v) Q E s:=by
 cases p with
 | none=>exact slicePart_none h
 | int i t=>exact slicePart_int h
def qeO {sl:Addr} {vl vu:Value} {lo hi:Option Int} {n:Nat} {Q:Int×Int×Nat→Shared→Prop} (hs:s.heap.IsSliceOf sl vl vu .none) (pl:IsPart vl lo) (pu:IsPart vu hi)
   (h:Q (((sIx n 0 lo:Nat):Int),1,sIx n n hi-sIx n 0 lo) s):wpAny (model prog w) A (Builtin.Slice.sliceApplied (.ref sl) (pure (n:Int))) Q E s:=by
 obtain ⟨os,hos,hcs,hds⟩:=id hs
 unfold Builtin.Slice.sliceApplied Builtin.Slice.sliceFields
 refine wpAny_bind (wpAny_bind (wpAny_field hos hds (x:=vl) rfl (wpAny_bind (wpAny_field hos hds (x:=vu) rfl (wpAny_bind (wpAny_field hos hds (x := .none) rfl (wpAny_pure ?_)))))))
 refine wpAny_bind (slicePart_none ?_)
 show wpAny _ _ (if ((1:Int)==0)=true then _ else _) _ _ s
 rw [if_neg (by decide)]
 refine wpAny_bind (qf9 pl (wpAny_bind (qf9 pu (wpAny_bind (wpAny_pure ?_)))))
 show wpAny _ _ (match Builtin.Slice.sliceAdjust lo hi 1 (n:Int) with | (lo,hi)=>pure (lo,(1:Int),Builtin.Slice.slicePlaces lo hi 1)) _ _ s
 rw [qkn lo hi n]
 show wpAny _ _ (pure (((sIx n 0 lo:Nat):Int),(1:Int),Builtin.Slice.slicePlaces ((sIx n 0 lo:Nat):Int) ((sIx n n hi:Nat):Int) 1)) _ _ s
 rw [qkp]
 exact wpAny_pure h
def qnp (xs:Array Value) (i k:Nat):((List.range k).filterMap fun (m:Nat)=>xs[((i:Int)+(m:Int)*1).toNat]?).toArray=((xs.toList.drop i).take k).toArray:=by
 have e:(fun (m:Nat)=>xs[((i:Int)+(m:Int)*1).toNat]?)=fun m=>xs[i+m]?:=by
   funext m
   have:((i:Int)+(m:Int)*1).toNat=i+m:=by omega
   rw [this]
 rw [e]
 have:=pick_run xs i k
 rw [List.filterMap_map] at this
 have e2:((fun x=>xs[x]?) ∘ fun x=>i+x)=fun m=>xs[i+m]?:=rfl
 rw [e2] at this
 rw [this]
def getItem_tuple_cut {t sl:Addr} {items:Array Value} {vl vu:Value} {lo hi:Option Int} {Q:Value→Shared→Prop} (ht:IsTup s.heap t items) (hs:s.heap.IsSliceOf sl vl vu .none) (pl:IsPart vl lo) (pu:IsPart vu hi)
   (hw:¬(sIx items.size 0 lo=0∧sIx items.size items.size hi=items.size))
   (h:Q (.ref s.heap.objs.size) { s with heap:=s.heap.push { cls := .type "tuple",data := .seq ((items.toList.drop (sIx items.size 0 lo)).take (sIx items.size items.size hi-sIx items.size 0 lo)).toArray } })
   (hsz:items.size≤sizeLine):wpAny (model prog w) A (getItem (.ref t) (.ref sl)) Q E s:=by
 have htake:sizeOk (.seq ((items.toList.drop (sIx items.size 0 lo)).take (sIx items.size items.size hi-sIx items.size 0 lo)).toArray):=by
   show ((items.toList.drop (sIx items.size 0 lo)).take (sIx items.size items.size hi-sIx items.size 0 lo)).toArray.size≤sizeLine
   rw [yfh,yfb,ydg,ydh]
   omega
 have hj:sIx items.size items.size hi≤items.size:=qsK _ _ (yba _) hi
 obtain ⟨os,hos,hcs,hds⟩:=id hs
 have hTs:s.TypeIs (.ref sl) "slice" := ⟨os,hos,hcs⟩
 unfold getItem
 try with_reducible refine wpAny_holding ?_
 first | refine wpAny_bind (wpAny_pure ?_) | skip
 refine wpAny_bind (wpAny_sequenceKey ht.typeIs (by decide) ?_)
 refine wpAny_bind (wpAny_callSpecial?_slot (name:=Str.ofString "__getitem__") ht.typeIs PyProof.Rows.slot_tuple_getitem
   (wpAny_call_entry PyProof.Rows.slot_tuple_getitem ht.typeIs entry_tuple_getitem ?_ (args_tuple_getitem _ _)))
 show wpAny _ _ (Builtin.Tuple.tupleItemsOf (.ref t) >>= _) _ _ s
 refine wpAny_bind (tupleItemsOf_ ht ?_)
 refine wpAny_bind (wpAny_typeOf hTs ?_)
 rw [if_pos (by decide)]
 refine wpAny_bind (qeO hs pl pu ?_)
 have hno:¬((((sIx items.size 0 lo:Nat):Int)==0&&(1:Int)==1&&(sIx items.size items.size hi-sIx items.size 0 lo)==items.size)=true):=by
   intro q
   rw [yab,yab] at q
   have q1:((sIx items.size 0 lo:Nat):Int)=0:=eq_of_beq q.1.1
   have q2:sIx items.size items.size hi-sIx items.size 0 lo=items.size:=eq_of_beq q.2
   exact hw ⟨by omega,by omega⟩
 show wpAny _ _ (if (((sIx items.size 0 lo:Nat):Int)==0&&(1:Int)==1&&(sIx items.size items.size hi-sIx items.size 0 lo)==items.size)=true then _ else _) _ _ s
 rw [if_neg hno,qnp]
 first
   | exact wpAny_bind (m:=Builtin.Tuple.tupleExact _) (wpAny_newObj_type (wpAny_pure ⟨_,rfl,wpAny_pure h⟩) htake)
   | exact wpAny_bind (m:=Builtin.Tuple.tupleExact _) (wpAny_newObj_type (wpAny_bind (wpAny_pure (wpAny_pure ⟨_,rfl,wpAny_pure h⟩))) htake)
   | exact wpAny_bind (wpAny_bind (m:=Builtin.Tuple.tupleExact _) (wpAny_newObj_type (wpAny_pure (wpAny_pure ⟨_,rfl,wpAny_pure h⟩)) htake))
   | exact wpAny_bind (wpAny_bind (m:=Builtin.Tuple.tupleExact _) (wpAny_newObj_type (wpAny_pure ⟨_,rfl,wpAny_pure h⟩) htake))
end
end HT
namespace L2
open PySem PySem.Spec PyProof.Rows
abbrev TO:=St→Hp→(Option Int→Hp→Prop)→Prop
def PO (X:Cx) (e:Option Expr) (t:TO):Prop :=
 ∀(pins:List (Addr×Obj)) (s:Shared) (σ:St) (H:Hp) (Q:Option Int→Hp→Prop),Inv X pins σ H s→t σ H Q →
   wpAny (model X.prog X.w) X.A (evalPart e X.env) (fun u s'=>∃o H',Inv X pins σ H' s'∧IsPart u o∧Q o H') X.xe s
def qmG:TO:=fun _ H Q=>Q none H
def qsP (t:TE):TO:=fun σ H Q=>t σ H fun x H1=>∃i,x = .int i∧Q (some i) H1
def qb9 {ns:List Int}:∀{us:List Value},qaV (ns.map V.int) us→IntsAre us ns:=by
 induction ns with
 | nil=>intro us r;rw [yfi] at r;cases r;exact .nil
 | cons n ns ih =>
   intro us r
   rw [ycf] at r
   cases r with
   | cons r1 r2 =>
     obtain ⟨t,e⟩:=r1
     subst e
     exact .cons n t (ih r2)
section
variable {X:Cx} {e:Expr} {te:TE} {lo hi:Option Expr} {tl th:TO} {pos p2:Pos}
def qch:PO X none qmG:=by
 intro pins s σ H Q I h
 rw [evalPart_none]
 exact wpAny_pure ⟨none,H,I,.none,h⟩
def qbK (h:PE X e te):PO X (some e) (qsP te):=by
 intro pins s σ H Q I hw
 rw [evalPart_some]
 refine thn (h pins s σ H _ I hw) fun u s1 ⟨x,H1,I1,r1,q1⟩=>?_
 obtain ⟨i,rfl,q⟩:=q1
 obtain ⟨t,rfl⟩:=r1
 exact ⟨some i,H1,I1,.int i t,q⟩
def SlR (X:Cx) (r:V→Option Int→Option Int→Hp→VK→Prop):Prop :=
 ∀(pins:List (Addr×Obj)) (s:Shared) (σ:St) (H:Hp) (x:V) (v vl vu:Value) (lo hi:Option Int) (sl:Addr) (Q:VK),Inv X pins σ H s→qbb x v→s.heap.IsSliceOf sl vl vu .none→IsPart vl lo→IsPart vu hi→r x lo hi H Q →
   ∃T id,typeLookup (.type T) "__getitem__" = pure (some (.builtin id))∧s.TypeIs v T∧wpAny (model X.prog X.w) X.A (getItem v (.ref sl)) (EP X pins σ Q) X.xe s
def tSl (r:V→Option Int→Option Int→Hp→VK→Prop) (te:TE) (tl th:TO):TE:=fun σ H Q=>te σ H fun x H1=>tl σ H1 fun l H2=>th σ H2 fun u H3=>r x l u H3 Q
def qbs {r:V→Option Int→Option Int→Hp→VK→Prop} (hr:SlR X r) (he:PE X e te) (hl:PO X lo tl) (hu:PO X hi th):PE X (.Subscript e (.Slice lo hi none p2) pos) (tSl r te tl th):=by
 intro pins s σ H Q I h
 refine Subscript_ (thn (he pins s σ H _ I h) fun v s1 ⟨x,H1,I1,r1,q1⟩=>?_)
 refine wpAny_Slice (thn (hl pins s1 σ H1 _ I1 q1) fun vl s2 ⟨l,H2,I2,pl,q2⟩=>thn (hu pins s2 σ H2 _ I2 q2) fun vu s3 ⟨u,H3,I3,pu,q3⟩=>?_)
 rw [evalPart_none]
 refine wpAny_pure ?_
 have I4:Inv X pins σ H3 { s3 with heap:=s3.heap.push { cls := .type "slice",data := .fields #[vl,vu,.none] } }:=I3.kept (t':=s3.toks) fun b ob q=>ydu _ q
 obtain ⟨T,id,hT,ht,hg⟩:=hr pins { s3 with heap:=s3.heap.push { cls := .type "slice",data := .fields #[vl,vu,.none] } } σ H3 x v vl vu l u s3.heap.objs.size Q I4 r1 (Heap.IsSliceOf.new ..) pl pu q3
 show wpAny (model X.prog X.w) X.A (subscriptTail e (.Slice lo hi none p2) v (.ref s3.heap.objs.size)) (EP X pins σ Q) X.xe { s3 with heap:=s3.heap.push { cls := .type "slice",data := .fields #[vl,vu,.none] } }
 exact tail_any (ops:=[.ref s3.heap.objs.size,v]) ht hT hg (by with_unfolding_all rfl)
def qiS (xs:List V) (lo hi:Option Int):List V:=(xs.drop (HT.sIx xs.length 0 lo)).take (HT.sIx xs.length xs.length hi-HT.sIx xs.length 0 lo)
def qfB (xs:List V) (lo hi:Option Int):(qiS xs lo hi).length≤xs.length:=by
 unfold qiS
 rw [yfb,ydg]
 omega
def quy (K:PySem.W.Frag):V→Option Int→Option Int→Hp→VK→Prop:=fun x lo hi H Q=>∃a xs,x = .ref a∧SqT K H a xs ∧
 ¬(HT.sIx xs.length 0 lo=0∧HT.sIx xs.length xs.length hi=xs.length)∧∀p,H p=none→Q (.ref p) (upd H p (.tup (qiS xs lo hi)))
def qs2:SlR X (quy X.K):=by
 intro pins s σ H x v vl vu lo hi sl Q I rx hs pl pu h
 obtain ⟨a,xs,rfl,hx,hw,q⟩:=h
 cases rx
 obtain ⟨its,r,ht,hz⟩:=I.tuple hx
 have hlen:its.toArray.size=xs.length:=by rw [yfh];exact r.length.symm
 refine ⟨"tuple",_,PyProof.Rows.slot_tuple_getitem.lookup,ht.typeIs,?_⟩
 refine HT.getItem_tuple_cut ht hs pl pu (by rw [hlen];exact hw) ?_ (by rw [hlen];exact hz)
 rw [hlen]
 refine ⟨.ref s.heap.objs.size,_,I.laid (t':=s.toks) (o := .tup (qiS xs lo hi)) (fun b ob q=>ydu _ q) (yba _) ?_,rfl,q _ (I.hok.fresh (yba _))⟩
 exact ⟨ydc (qfB xs lo hi) hz,_,(r.drop (HT.sIx xs.length 0 lo)).take (HT.sIx xs.length xs.length hi-HT.sIx xs.length 0 lo),IsTup.new _ _⟩
end
end L2
namespace L2
open PySem PySem.Spec PyProof.Rows
def ixN (n:Nat) (i:Int):Option Nat:=if 0≤i then (if i<n then some i.toNat else none) else if -(n:Int)≤i then some (i+n).toNat else none
def atI {α:Type} (xs:List α) (i:Int):Option α:=(ixN xs.length i).bind fun j=>xs[j]?
def ql3 {n:Nat} {i:Int} {j:Nat} (h:ixN n i=some j):seqIndex? i n=some j∧j<n∧-(n:Int)≤i∧i<n:=by
 unfold ixN at h
 by_cases h0:0≤i
 · rw [if_pos h0] at h
   by_cases h1:i<n
   · rw [if_pos h1] at h
     have e:i.toNat=j:=Option.some.inj h
     exact ⟨by rw [seqIndex_of h0 h1,e],by omega,by omega,h1⟩
   · rw [if_neg h1] at h;cases h
 · rw [if_neg h0] at h
   by_cases h1:-(n:Int)≤i
   · rw [if_pos h1] at h
     have e:(i+n).toNat=j:=Option.some.inj h
     exact ⟨by rw [seqIndex_neg (by omega) h1,e],by omega,h1,by omega⟩
   · rw [if_neg h1] at h;cases h
def qiP {α:Type} {xs:List α} {i:Int} {v:α} (h:atI xs i=some v):∃j,seqIndex? i xs.length=some j∧xs[j]?=some v∧j<xs.length∧-(xs.length:Int)≤i∧i<xs.length:=by
 unfold atI at h
 cases e:ixN xs.length i with
 | none=>rw [e] at h;cases h
 | some j =>
   rw [e] at h
   obtain ⟨h1,h2,h3,h4⟩:=ql3 e
   exact ⟨j,h1,h,h2,h3,h4⟩
def qaz {α:Type} {xs:List α} {j:Nat} {v:α} (h:xs[j]?=some v):atI xs (j:Int)=some v:=by
 have hj:j<xs.length:=(ycl.mp h).1
 have e:ixN xs.length (j:Int)=some j:=by
   unfold ixN
   rw [if_pos (by omega),if_pos (by omega)];simp
 unfold atI;rw [e];exact h
def qpV (b:Expr):Prop:=∀o i,subscripted b false o i=operate [o,i] (getItem o i)
def IxR (X:Cx) (r:R2):Prop :=
 ∀(value slice:Expr) (pins:List (Addr×Obj)) (s:Shared) (σ:St) (H:Hp) (x y:V) (v u:Value) (Q:VK),Inv X pins σ H s→qbb x v→qbb y u→r x y H Q →
   subscripted slice false v u=operate [v,u] (getItem v u)→wpAny (model X.prog X.w) X.A (subscriptTail value slice v u) (EP X pins σ Q) X.xe s
def MtR (X:Cx) (id:String) (r:V→List V→Hp→VK→Prop):Prop :=
 ∀(pins:List (Addr×Obj)) (s:Shared) (σ:St) (H:Hp) (x:V) (xs:List V) (v:Value) (us:List Value) (Q:VK),Inv X pins σ H s→qbb x v→qaV xs us→r x xs H Q →
   wpAny (model X.prog X.w) X.A (call (.builtin id) (v::us)) (EP X pins σ Q) X.xe s
section
variable {X:Cx} {a b:Expr} {ta tb:TE} {pos:Pos}
def IxR.or {r r':R2} (h:IxR X r) (h':IxR X r'):IxR X (fun x y H Q=>r x y H Q∨r' x y H Q):=by
 intro value slice pins s σ H x y v u Q I rx ry q hs
 rcases q with q | q
 · exact h value slice pins s σ H x y v u Q I rx ry q hs
 · exact h' value slice pins s σ H x y v u Q I rx ry q hs
def qaA {r:R2} (hr:IxR X r) (ha:PE X a ta) (hb:PE X b tb) (hs:qpV b):PE X (.Subscript a b pos) (tOp r ta tb):=by
 intro pins s σ H Q I h
 exact Subscript_ (qtq ha hb I h fun v u s2 x y H2 I2 rx ry q=>hr a b pins s2 σ H2 x y v u Q I2 rx ry q (hs _ _))
def quK (K:PySem.W.Frag):R2:=fun x y H Q=>∃p xs i v,x = .ref p∧y = .int i∧SqL K H p xs∧atI xs i=some v∧Q v H
def qut (K:PySem.W.Frag):R2:=fun x y H Q=>∃p xs i v,x = .ref p∧y = .int i∧SqT K H p xs∧atI xs i=some v∧Q v H
def quA:R2:=fun x y H Q=>∃z i c,x = .str z∧y = .int i∧z.length≤sizeLine∧atI z.cps.toList i=some c∧Q (.str ⟨#[c]⟩) H
def qpT:IxR X (quK X.K):=by
 intro value slice pins s σ H x y v u Q I rx ry h hs
 obtain ⟨p,xs,i,z,rfl,rfl,hq,he,q⟩:=h
 cases rx
 obtain ⟨t,rfl⟩:=ry
 obtain ⟨its,r,pl,hz⟩:=I.list hq
 obtain ⟨j,h1,h2,h3,h4,h5⟩:=qiP he
 obtain ⟨w,ew,rw'⟩:=r.get h2
 have hl:=r.length
 have hn:=qgk
 have fin:EP X pins σ Q w s:=⟨z,H,I,rw',q⟩
 by_cases h0:0≤i
 · have hj:i.toNat=j:=by
     rw [seqIndex_of h0 h5] at h1
     exact Option.some.inj h1
   exact item_listR pl.isList h0 (by omega) (by rw [hj];simpa using ew) fin hs
 · have hj:(i+(its.toArray.size:Int)).toNat=j:=by
     rw [seqIndex_neg (by omega) h4] at h1
     rw [yfh,←hl]
     exact Option.some.inj h1
   exact subscriptTail_builtinR (x:=w) pl.isList.typeIs slot_list_getitem.lookup
     (wpAny_getItem_list_neg (Q:=fun r s'=>r=w∧EP X pins σ Q r s') pl.isList (by omega) (by rw [yfh]<;>omega) (by omega) (by rw [hj];simpa using ew) ⟨rfl,fin⟩) hs
def qsC:IxR X (qut X.K):=by
 intro value slice pins s σ H x y v u Q I rx ry h hs
 obtain ⟨p,xs,i,z,rfl,rfl,hq,he,q⟩:=h
 cases rx
 obtain ⟨t,rfl⟩:=ry
 obtain ⟨its,r,pl,hz⟩:=I.tuple hq
 obtain ⟨j,h1,h2,h3,h4,h5⟩:=qiP he
 obtain ⟨w,ew,rw'⟩:=r.get h2
 have hl:=r.length
 have hn:=qgk
 have fin:EP X pins σ Q w s:=⟨z,H,I,rw',q⟩
 exact subscriptTail_builtinR (x:=w) pl.typeIs slot_tuple_getitem.lookup
   (getItem_tuple (j:=j) (Q:=fun r s'=>r=w∧EP X pins σ Q r s') pl (by omega) (by omega) (by rw [yfh,←hl];exact h1) (by simpa using ew) ⟨rfl,fin⟩) hs
def qsd:IxR X quA:=by
 intro value slice pins s σ H x y v u Q I rx ry h hs
 obtain ⟨z,i,c,rfl,rfl,hz,he,q⟩:=h
 obtain ⟨t,rfl⟩:=rx
 obtain ⟨t',rfl⟩:=ry
 obtain ⟨j,h1,h2,h3,h4,h5⟩:=qiP he
 have hl:z.cps.toList.length=z.length:=by simp [Str.length]
 rw [hl] at h1 h4 h5
 have hn:=qgk
 exact tail_any (typeIs_str s z t) slot_str_getitem.lookup (getItem_str (c:=c) (by
   have e1:decide (i < -(2^63:Int))=false:=decide_eq_false (by omega)
   have e2:decide (i≥2^63)=false:=decide_eq_false (by omega)
   rw [e1,e2,yel]) (by rw [h1];simpa using h2) ⟨.str ⟨#[c]⟩,H,I.tok _,⟨_,rfl⟩,q⟩) hs
def rIx (K:PySem.W.Frag):R2:=fun x y H Q=>quK K x y H Q∨qut K x y H Q∨quA x y H Q
def qrT:IxR X (rIx X.K):=qpT.or (qsC.or qsd)
def qkl (its:List Value) (n j:Nat) (u:Value):Obj.mapSeq (·.setIfInBounds j u) { cls := .type "list",data := .seq its.toArray n }={ cls := .type "list",data := .seq (its.set j u).toArray n }:=by
 simp [Obj.mapSeq]
def Inv.lst {pins:List (Addr×Obj)} {σ:St} {H:Hp} {s:Shared} {p:Addr} {xs:List V} (I:Inv X pins σ H s) (h:H p=some (.lst xs)) :
   ∃(its:List Value) (n:Nat),qaV xs its∧s.heap.get? p=some { cls := .type "list",data := .seq its.toArray n }∧xs.length≤sizeLine:=by
 obtain ⟨z,its,n,r,e⟩:=I.hok p _ h
 exact ⟨its,n,r,e,z⟩
def Inv.lstUpd {pins:List (Addr×Obj)} {σ:St} {H:Hp} {s:Shared} {p:Addr} {xs ys:List V} {its its':List Value} {n n':Nat} {f:Obj→Obj} (I:Inv X pins σ H s) (h:H p=some (.lst xs))
   (ho:s.heap.get? p=some { cls := .type "list",data := .seq its.toArray n }) (hf:f { cls := .type "list",data := .seq its.toArray n }={ cls := .type "list",data := .seq its'.toArray n' }) (r:qaV ys its') (hz:ys.length≤sizeLine) (t:Nat) :
   Inv X pins σ (upd H p (.lst ys)) { s with heap:=s.heap.update p f,toks:=t }:=by
 have e:(s.heap.update p f).get? p=some { cls := .type "list",data := .seq its'.toArray n' }:=by
   rw [ydr f ho (by rw [hf]<;>rfl),hf]
 refine I.write (x:=p) (e:=p) (by rw [h];trivial) (.inl rfl) (fun b u hb q=>(yeg _ _ (Ne.symm hb)).trans q) ⟨_,e⟩ ?_
 exact ⟨hz,its',n',r,e⟩
def qtQ:V→V→V→Hp→(Hp→Prop)→Prop:=fun o i v H Q=>∃p xs k j,o = .ref p∧i = .int k∧H p=some (.lst xs)∧ixN xs.length k=some j∧Q (upd H p (.lst (xs.set j v)))
def qjt:quv X qtQ:=by
 intro pins s σ H o i v ov iv u Q I ro ri rv h
 obtain ⟨p,xs,k,j,rfl,rfl,hp,hj,q⟩:=h
 cases ro
 obtain ⟨t,rfl⟩:=ri
 obtain ⟨its,n,r,ho,hz⟩:=I.lst hp
 obtain ⟨h1,h2,h3,h4⟩:=ql3 hj
 have hl:=r.length
 have hn:=qgk
 have I':Inv X pins σ (upd H p (.lst (xs.set j v))) { s with heap:=s.heap.update p (Obj.mapSeq (·.setIfInBounds j u)) } :=
   I.lstUpd hp ho (qkl its n j u) (r.set rv j) (by rw [yfj];exact hz) s.toks
 by_cases h0:0≤k
 · have hk:k.toNat=j:=by
     rw [seqIndex_of h0 h4] at h1
     exact Option.some.inj h1
   exact PySem.W.ki_setAt ho h0 (by omega) (by rw [yfh,←hl];exact h4) (by rw [hk];exact ⟨_,I',q⟩)
 · have hk:(k+(its.toArray.size:Int)).toNat=j:=by
     rw [seqIndex_neg (by omega) h3] at h1
     rw [yfh,←hl]
     exact Option.some.inj h1
   exact PySem.W.ki_setBack ho (by omega) (by rw [yfh,←hl];exact h3) (by omega) (by rw [hk];exact ⟨_,I',q⟩)
def qh6 (lo hi:Option Int) (n:Nat):(sliceBounds lo hi none n).1=((HT.sIx n 0 lo:Nat):Int)∧(sliceBounds lo hi none n).2.1=((HT.sIx n n hi:Nat):Int)∧(sliceBounds lo hi none n).2.2=1:=by
 refine ⟨?_,?_,rfl⟩
 · cases lo with
   | none=>simp [sliceBounds,HT.sIx]
   | some i =>
     simp only [sliceBounds,HT.sIx,Option.getD_none,show (1:Int)>0 by decide,if_true]
     by_cases h:i<0
     · simp only [h,if_true]<;>omega
     · simp only [h,if_false]<;>omega
 · cases hi with
   | none=>simp [sliceBounds,HT.sIx]
   | some i =>
     simp only [sliceBounds,HT.sIx,Option.getD_none,show (1:Int)>0 by decide,if_true]
     by_cases h:i<0
     · simp only [h,if_true]<;>omega
     · simp only [h,if_false]<;>omega
def qgS (its:List Value) (lo hi:Option Int):slicePick its.toArray lo hi none=((its.drop (HT.sIx its.length 0 lo)).take (HT.sIx its.length its.length hi-HT.sIx its.length 0 lo)).toArray:=by
 obtain ⟨h1,h2,h3⟩:=qh6 lo hi its.toArray.size
 unfold slicePick
 rw [h1,h2,h3]
 simp only [sliceRange_one,pick_run,yfh]<;>rfl
def quz (K:PySem.W.Frag):V→Option Int→Option Int→Hp→VK→Prop:=fun x lo hi H Q=>∃a xs,x = .ref a∧SqL K H a xs∧∀p,H p=none→Q (.ref p) (upd H p (.lst (qiS xs lo hi)))
def qqi:SlR X (quz X.K):=by
 intro pins s σ H x v vl vu lo hi sl Q I rx hs pl pu h
 obtain ⟨a,xs,rfl,hx,q⟩:=h
 cases rx
 obtain ⟨its,r,ht,hz⟩:=I.list hx
 have hlen:=r.length
 refine ⟨"list",_,slot_list_getitem.lookup,ht.isList.typeIs,?_⟩
 refine wpAny_getItem_list_slice ht.isList hs pl pu .none (by simp) ?_ (by rw [yfh]<;>omega)
 rw [qgS,←hlen]
 refine ⟨.ref s.heap.objs.size,_,I.laid (t':=s.toks) (o := .lst (qiS xs lo hi)) (fun b ob q=>ydu _ q) (yba _) ?_,rfl,q _ (I.hok.fresh (yba _))⟩
 exact ⟨ydc (qfB xs lo hi) hz,_,0,(r.drop (HT.sIx xs.length 0 lo)).take (HT.sIx xs.length xs.length hi-HT.sIx xs.length 0 lo),ydt _ rfl⟩
def qbz:V→Bool
 | .non=>true
 | .bl _=>true
 | .int _=>true
 | .str _=>true
 | _=>false
def eqV:V→V→Bool
 | .non,.non=>true
 | .bl a,.bl b=>a==b
 | .bl a,.int b=>(if a then 1 else 0)==b
 | .int a,.bl b=>a==(if b then 1 else 0)
 | .int a,.int b=>a==b
 | .str a,.str b=>a==b
 | _,_=>false
def qoV {A:Around} {s:Shared} {y x:V} {u v:Value} (ry:qbb y u) (rx:qbb x v) (fy:qbz y=true) (fx:qbz x=true):SeqAt.EqAt A s u v (eqV y x):=by
 cases y with
 | non =>
   cases ry
   cases x with
   | non=>cases rx;exact SeqAt.EqAt.same _
   | bl b=>cases rx;exact SeqAt.EqAt.none_bool b
   | int b=>obtain ⟨t,rfl⟩:=rx;exact SeqAt.EqAt.none_int b t
   | str b=>obtain ⟨t,rfl⟩:=rx;exact SeqAt.EqAt.none_str b t
   | _=>exact absurd (show false=true from fx) yet
 | bl a =>
   cases ry
   cases x with
   | non=>cases rx;exact SeqAt.EqAt.bool_none a
   | bl b=>cases rx;exact SeqAt.EqAt.bool_bool a b
   | int b=>obtain ⟨t,rfl⟩:=rx;exact SeqAt.EqAt.bool_int a b t
   | str b=>obtain ⟨t,rfl⟩:=rx;exact SeqAt.EqAt.bool_str a b t
   | _=>exact absurd (show false=true from fx) yet
 | int a =>
   obtain ⟨t',rfl⟩:=ry
   cases x with
   | non=>cases rx;exact SeqAt.EqAt.int_none a t'
   | bl b=>cases rx;exact SeqAt.EqAt.int_bool a t' b
   | int b=>obtain ⟨t,rfl⟩:=rx;exact SeqAt.EqAt.int_int a t' b t
   | str b=>obtain ⟨t,rfl⟩:=rx;exact SeqAt.EqAt.int_str a t' b t
   | _=>exact absurd (show false=true from fx) yet
 | str a =>
   obtain ⟨t',rfl⟩:=ry
   cases x with
   | non=>cases rx;exact SeqAt.EqAt.str_none a t'
   | bl b=>cases rx;exact SeqAt.EqAt.str_bool a t' b
   | int b=>obtain ⟨t,rfl⟩:=rx;exact SeqAt.EqAt.str_int a t' b t
   | str b=>obtain ⟨t,rfl⟩:=rx;exact SeqAt.EqAt.str_str a t' b t
   | _=>exact absurd (show false=true from fx) yet
 | _=>exact absurd (show false=true from fy) yet
def eqU (x:V) (u:Value):Bool:=match u with
 | .none=>eqV .non x
 | .bool b=>eqV (.bl b) x
 | .int i _=>eqV (.int i) x
 | .str z _=>eqV (.str z) x
 | _=>false
def qpa {x y:V} {u:Value} (r:qbb y u) (f:qbz y=true):eqU x u=eqV y x:=by
 cases y with
 | non=>cases r;rfl
 | bl b=>cases r;rfl
 | int i=>obtain ⟨t,rfl⟩:=r;rfl
 | str z=>obtain ⟨t,rfl⟩:=r;rfl
 | _=>exact absurd (show false=true from f) yet
def qis {x:V}:∀{xs:List V} {us:List Value},qaV xs us→xs.all qbz=true→us.any (eqU x)=xs.any fun y=>eqV y x
 | _,_,.nil,_=>rfl
 | y::xs,u::us,.cons r t,f=>by
   rw [List.all_cons,yab] at f
   rw [yfk,yfk,qpa r f.1,qis t f.2]
def qg3 {A:Around} {s:Shared} {x:V} {v:Value} (rx:qbb x v) (fx:qbz x=true):∀{xs:List V} {us:List Value},qaV xs us→xs.all qbz=true→∀u∈us,SeqAt.EqAt A s u v (eqU x u)
 | _,_,.nil,_=>fun u hu=>by cases hu
 | y::xs,u::us,.cons r t,f=>fun u' hu=>by
   rw [List.all_cons,yab] at f
   rcases ybg.mp hu with rfl | hu
   · rw [qpa r f.1];exact qoV r rx f.1 fx
   · exact qg3 rx fx t f.2 u' hu
def inV (x:V) (xs:List V):Bool:=xs.any fun y=>eqV y x
def rIn (K:PySem.W.Frag) (neg:Bool):R2:=fun x y H Q=>∃p xs,y = .ref p∧(SqL K H p xs∨SqT K H p xs)∧qbz x=true∧xs.all qbz=true∧Q (.bl (if neg then !inV x xs else inV x xs)) H
def qhB:OpR X (compareOp .NotIn) (rIn X.K true):=by
 intro pins s σ H x y v u Q I rx ry h
 obtain ⟨p,xs,rfl,hq,fx,fs,q⟩:=h
 cases ry
 rcases hq with hq | hq
 · obtain ⟨its,r,pl,hz⟩:=I.list hq
   refine SeqAt.notIn_listAt (eqU x) pl.isList (fun w hw=>qg3 rx fx r fs w (by simpa using hw)) ⟨.bl _,H,I,rfl,?_⟩
   rw [show its.toArray.any (eqU x)=its.any (eqU x) by simp,qis r fs]
   exact q
 · obtain ⟨its,r,pl,hz⟩:=I.tuple hq
   refine SeqAt.notIn_tupleAt (eqU x) pl (fun w hw=>qg3 rx fx r fs w (by simpa using hw)) ⟨.bl _,H,I,rfl,?_⟩
   rw [show its.toArray.any (eqU x)=its.any (eqU x) by simp,qis r fs]
   exact q
def qhZ:qb7 X (.builtin "len") (fun xs H Q=>∃p ys,xs=[.ref p]∧(SqL X.K H p ys∨SqT X.K H p ys)∧Q (.int ys.length) H):=by
 intro pins s σ H xs us Q I r h
 obtain ⟨p,ys,rfl,hq,q⟩:=h
 obtain ⟨u,rfl,rx⟩:=qb6 r
 cases rx
 have hn:=qgk
 rcases hq with hq | hq
 · obtain ⟨its,r',pl,hz⟩:=I.list hq
   have hlen:=r'.length
   exact Calls.call_len_list pl.isList (by simp only [yfh]<;>omega) ⟨.int ys.length,H,I.tok _,⟨s.toks+1,by rw [yfh,hlen]⟩,q⟩
 · obtain ⟨its,r',pl,hz⟩:=I.tuple hq
   have hlen:=r'.length
   exact len_tuple pl (by simp only [yfh]<;>omega) ⟨.int ys.length,H,I.tok _,⟨s.toks+1,by rw [yfh,hlen]⟩,q⟩
def qht:qb7 X (.builtin "len") (fun xs H Q=>∃z,xs=[.str z]∧z.length≤sizeLine∧Q (.int z.length) H):=by
 intro pins s σ H xs us Q I r h
 obtain ⟨z,rfl,hz,q⟩:=h
 obtain ⟨u,rfl,t,rfl⟩:=qb6 r
 have hn:=qgk
 exact len_str (by omega) ⟨.int z.length,H,I.tok _,⟨_,rfl⟩,q⟩
def qcF:qb7 X (.type "list") (fun xs H Q=>∃p ys,xs=[.ref p]∧(SqL X.K H p ys∨SqT X.K H p ys)∧∀l,H l=none→Q (.ref l) (upd H l (.lst ys))):=by
 intro pins s σ H xs us Q I r h
 obtain ⟨p,ys,rfl,hq,q⟩:=h
 obtain ⟨u,rfl,rx⟩:=qb6 r
 cases rx
 have fin:∀(its:List Value),qaV ys its→ys.length≤sizeLine→∀(h':Heap) (c':Nat),(∀b o',s.heap.get? b=some o'→h'.get? b=some o') →
     h'.get? s.heap.objs.size=some { cls := .type "list",dict:=none,data := .seq its.toArray c',slots:=#[] }→EP X pins σ Q (.ref s.heap.objs.size) { s with heap:=h' }:=fun its r' hz h' c' kp e =>
   ⟨.ref s.heap.objs.size,_,I.laid (t':=s.toks) kp (yba _) (show qbl X.prog X.w _ h' _ (.lst ys) from ⟨hz,its,c',r',e⟩),rfl,q _ (I.hok.fresh (yba _))⟩
 rcases hq with hq | hq
 · obtain ⟨its,r',pl,hz⟩:=I.list hq
   have hlen:=r'.length
   obtain ⟨o,ho,hc,n,hd⟩:=pl.isList
   exact call_list_seq p (.inl rfl) ho hc hd (fun h' c' kp e=>fin its r' hz h' c' kp e) (by simp only [yfh]<;>omega)
 · obtain ⟨its,r',pl,hz⟩:=I.tuple hq
   have hlen:=r'.length
   obtain ⟨o,ho,hc,n,hd⟩:=pl
   exact call_list_seq p (.inr rfl) ho hc hd (fun h' c' kp e=>fin its r' hz h' c' kp e) (by simp only [yfh]<;>omega)
def tyV (K:PySem.W.Frag) (T:String) (x:V) (H:Hp):Prop:=match x with
 | .str _=>T = "str"
 | .int _=>T = "int"
 | .ref p=>(T = "list" ∧ ∃xs,SqL K H p xs)∨(T = "tuple" ∧ ∃o,K.lookup p=some o∧o.cls = .type "tuple" ∧ o.dict=none) ∨
     (T = "dict" ∧ ((∃kvs,H p=some (.dK kvs))∨∃kvs,H p=some (.dT kvs)))∨(T = "set" ∧ ∃S n,H p=some (.set S n))
 | _=>False
def qoP {pins:List (Addr×Obj)} {σ:St} {H:Hp} {s:Shared} {T:String} {x:V} {v:Value} (I:Inv X pins σ H s) (r:qbb x v) (ty:tyV X.K T x H) :
   s.TypeIs v T∧∀a,v = .ref a→∃ob,s.heap.get? a=some ob∧ob.dict=none:=by
 cases x with
 | str z =>
   obtain ⟨t,rfl⟩:=r
   cases (show T = "str" from ty)
   exact ⟨typeIs_str s z t,fun _ e=>nomatch e⟩
 | int i =>
   obtain ⟨t,rfl⟩:=r
   cases (show T = "int" from ty)
   exact ⟨typeIs_int s i t,fun _ e=>nomatch e⟩
 | ref p =>
   cases r
   rcases ty with ⟨rfl,xs,hq⟩ | ⟨rfl,o,hk,hc,hd⟩ | ⟨rfl,hk⟩ | ⟨rfl,S,n,hk⟩
   · obtain ⟨its,_,pl,_⟩:=I.list hq
     refine ⟨pl.isList.typeIs,fun a e=>?_⟩
     cases e
     obtain ⟨o,n,e,c,hd,_⟩:=pl
     exact ⟨o,e,hd⟩
   · refine ⟨⟨o,I.kIn p o hk,hc⟩,fun a e=>?_⟩
     cases e
     exact ⟨o,I.kIn _ o hk,hd⟩
   · have z:∃o,s.heap.get? p=some o∧o.ExactDict:=by
       rcases hk with ⟨kvs,hk⟩ | ⟨kvs,hk⟩
       · obtain ⟨_,_,_,_,o,_,_,e,ex,_⟩:=I.hok p _ hk
         exact ⟨o,e,ex⟩
       · obtain ⟨_,_,_,_,o,_,_,e,ex,_⟩:=I.hok p _ hk
         exact ⟨o,e,ex⟩
     obtain ⟨o,e,ex⟩:=z
     refine ⟨⟨o,e,ex.1⟩,fun a e2=>?_⟩
     cases e2
     exact ⟨o,e,ex.2.1⟩
   · obtain ⟨o,_,_,_,e,ex,_⟩:=I.hok p _ hk
     refine ⟨⟨o,e,ex.1⟩,fun a e2=>?_⟩
     cases e2
     exact ⟨o,e,ex.2.1⟩
 | _=>exact False.elim ty
def quF (K:PySem.W.Frag) (T:String) (r:V→List V→Hp→VK→Prop) (to:TE):TE:=fun σ H Q=>to σ H fun x H1=>tyV K T x H1∧r x [] H1 Q
def tBM (K:PySem.W.Frag) (T:String) (r:V→List V→Hp→VK→Prop) (to:TE) (t:TA):TE:=fun σ H Q=>to σ H fun x H1=>tyV K T x H1∧t σ H1 fun xs H2=>r x xs H2 Q
variable {o e:Expr} {es:List Expr} {to:TE} {t:TA} {name:Str} {apos cpos:Pos} {T id:String} {r:V→List V→Hp→VK→Prop}
def qsl (pa:PlainAttrs T) (slot:Slot T name id) (hty:typeOf (.builtin id)=pure (.type "method_descriptor")) (hm:MtR X id r) (ho:PE X o to)
   (hbase:attributeBase o name X.env (eval o X.env)=eval o X.env:=by rfl) (hline:(apos.endLine==cpos.line)=true:=by rfl):PE X (.Call (.Attribute o name apos) [] [] cpos) (quF X.K T r to):=by
 intro pins s σ H Q I h
 refine wpAny_Call_method0_late hbase hline (thn (ho pins s σ H _ I h) fun v s1 ⟨x,H1,I1,r1,ty,q1⟩=>?_)
 obtain ⟨h1,h2⟩:=qoP I1 r1 ty
 exact ⟨T,id,pa,slot,hty,h1,h2,Calls.callWith_builtin rfl (PySem.evalArgs_none (hm pins s1 σ H1 x [] v [] Q I1 r1 .nil q1))⟩
def qbf (pa:PlainAttrs T) (slot:Slot T name id) (hty:typeOf (.builtin id)=pure (.type "method_descriptor")) (hm:MtR X id r) (ho:PE X o to) (ha:PA X (e::es) t)
   (hbase:attributeBase o name X.env (eval o X.env)=eval o X.env:=by rfl)
   (hfew:((backTo cpos (starEach (e::es) X.env)).all (fun x=>!x.1)&&(backToKw cpos (keywordEach [] X.env)).all (fun x=>x.1.isSome)
     && decide ((e::es).length+([]:List Keyword).length+(if ([]:List Keyword).isEmpty then 0 else 1)<30))=true:=by rfl)
   (hline:(apos.endLine==cpos.line)=true:=by rfl) (hs:starEach (e::es) X.env=(false,eval e X.env)::starEach es X.env:=by rfl) (hplain:(backTo cpos (starEach es X.env)).any (·.1)=false:=by rfl) :
   PE X (.Call (.Attribute o name apos) (e::es) [] cpos) (tBM X.K T r to t):=by
 intro pins s σ H Q I h
 refine wpAny_Call_method_late hbase hfew hline rfl (thn (ho pins s σ H _ I h) fun v s1 ⟨x,H1,I1,r1,ty,q1⟩=>?_)
 obtain ⟨h1,h2⟩:=qoP I1 r1 ty
 refine ⟨T,id,pa,slot,hty,h1,h2,?_⟩
 have hA:=ha cpos pins s1 σ H1 _ I1 q1
 rw [hs] at hA ⊢
 refine Calls.callWith_builtin (by show (false||(backTo cpos (starEach es X.env)).any (·.1))=false;rw [hplain]<;>rfl) (Calls.evalArgs_plain ?_)
 exact thn hA fun us s2 ⟨vs,H2,I2,r2,q2⟩=>hm pins s2 σ H2 x vs v us Q I2 r1 r2 q2
end
end L2
namespace L2
open PySem PySem.Spec PyProof.Rows
def MtM (X:Cx) (id:String) (r:V→List V→Hp→VK→Prop):Prop :=
 ∀(pins:List (Addr×Obj)) (s:Shared) (σ:St) (H:Hp) (x:V) (xs:List V) (v:Value) (us:List Value) (Q:VK),Inv X pins σ H s→qbb x v→qaV xs us→r x xs H Q →
   wpAny (model X.prog X.w) X.A (call (.builtin id) (v::us)) (EP X pins σ Q) X.xe s
def qaV.one:∀{x:V} {us:List Value},qaV [x] us→∃u,us=[u]∧qbb x u
 | _,_,.cons r .nil=>⟨_,rfl,r⟩
def qaV.rep {xs:List V} {us:List Value} (h:qaV xs us):∀k:Nat,qaV (List.replicate k xs).flatten (List.replicate k us).flatten
 | 0 => .nil
 | k+1=>by
   rw [yfl,yfl,yfm,yfm]
   exact qaV.append h (qaV.rep h k)
def qhz (its:List Value):∀(k:Nat) (acc:List Value),
   List.foldl (fun x1 x2=>x1++x2) acc.toArray (List.replicate k its.toArray)=(acc++(List.replicate k its).flatten).toArray
 | 0,acc=>by simp
 | k+1,acc=>by
   have e:acc.toArray++its.toArray=(acc++its).toArray:=by simp
   have e2:(acc++its)++(List.replicate k its).flatten=acc++(List.replicate (k+1) its).flatten:=by
     rw [yfl,yfm,ydk]
   rw [←e2,←qhz its k (acc++its),←e,yfl,ybn]
section
variable {X:Cx} {pins:List (Addr×Obj)} {σ:St} {H:Hp} {s:Shared} {l b:Addr} {xs ys zs:List V}
def Inv.lset {its its':List Value} {n:Nat} {f:Array Value→Array Value} {t':Nat} (I:Inv X pins σ H s) (hH:H l=some (.lst xs))
   (e:s.heap.get? l=some { cls := .type "list",data := .seq its.toArray n }) (hf:f its.toArray=its'.toArray) (hv:qaV ys its') (hz:ys.length≤sizeLine) :
   Inv X pins σ (upd H l (.lst ys)) { s with heap:=s.heap.update l (Obj.mapSeq f),toks:=t' }:=by
 have q:=PySem.IsL.update e f
 rw [hf] at q
 refine I.write (x:=l) (e:=l) (by rw [hH];exact trivial) (.inl rfl) (fun b' u hb hu=>(yeg s.heap (Obj.mapSeq f) (Ne.symm hb)).trans hu) ⟨_,q⟩ ?_
 exact ⟨hz,its',_,hv,q⟩
def Inv.lnew {its:List Value} {t':Nat} (I:Inv X pins σ H s) (hv:qaV ys its) (hz:ys.length≤sizeLine) :
   Inv X pins σ (upd H s.heap.objs.size (.lst ys)) { s with heap:=s.heap.push { cls := .type "list",data := .seq its.toArray },toks:=t' } :=
 I.laid (fun _ _ q=>ydu _ q) (yba _) ⟨hz,its,0,hv,ydt _ rfl⟩
def Inv.fresh (I:Inv X pins σ H s):H s.heap.objs.size=none:=I.hok.fresh (yba _)
def Inv.lstM (I:Inv X pins σ H s) (hH:H l=some (.lst xs)):xs.length≤sizeLine∧∃(its:List Value) (n:Nat),qaV xs its∧xs.length=its.length∧s.heap.get? l=some { cls := .type "list",data := .seq its.toArray n }:=by
 obtain ⟨z,its,n,r,e⟩:=I.hok l _ hH
 exact ⟨z,its,n,r,r.length,e⟩
def qjY {n:Nat} (h:n≤sizeLine):Builtin.List.listTooLong n=false:=by
 unfold Builtin.List.listTooLong
 exact decide_eq_false (by omega)
end
section
variable {X:Cx}
def qlA:V→List V→Hp→VK→Prop:=fun x vs H Q=>∃l xs y,x = .ref l∧vs=[y]∧H l=some (.lst xs)∧xs.length<sizeLine∧Q .non (upd H l (.lst (xs++[y])))
def qce:MtM X "list.append" qlA:=by
 intro pins s σ H x vs v us Q I rx rv h
 obtain ⟨l,xs,y,rfl,rfl,hH,hz,q⟩:=h
 cases rx
 obtain ⟨u,rfl,ru⟩:=rv.one
 obtain ⟨z,its,n,r,hl,e⟩:=I.lstM hH
 refine call_meets F.slot_list_append ⟨_,e,rfl⟩ F.entry_list_append (F.args_list_append_2 _ _) (PySem.list_append l its.toArray n u (by rw [yfh];omega)) ⟨e,?_⟩
 refine ⟨.non,_,I.lset (its':=its++[u]) hH e (by simp) (r.append (.cons ru .nil)) ?_,rfl,q⟩
 rw [ydq,yfn]
 omega
def qq7:V→List V→Hp→VK→Prop:=fun x vs H Q=>∃l b xs zs,x = .ref l∧vs=[.ref b]∧H l=some (.lst xs)∧H b=some (.lst zs)∧xs.length+zs.length≤sizeLine∧Q .non (upd H l (.lst (xs++zs)))
def qk7:MtM X "list.extend" qq7:=by
 intro pins s σ H x vs v us Q I rx rv h
 obtain ⟨l,b,xs,zs,rfl,rfl,hH,hB,hz,q⟩:=h
 cases rx
 obtain ⟨u,rfl,ru⟩:=rv.one
 cases ru
 obtain ⟨z,its,n,r,hl,e⟩:=I.lstM hH
 obtain ⟨z2,its2,n2,r2,hl2,e2⟩:=I.lstM hB
 have hsz:its.toArray.size+its2.toArray.size≤sizeLine:=by rw [yfh,yfh];omega
 have hlong:¬(!its.toArray.isEmpty&&Builtin.List.listTooLong (its.toArray.size+its2.toArray.size))=true:=by
   rw [qjY hsz,Bool.and_false]
   exact yet
 refine call_meets F.slot_list_extend ⟨_,e,rfl⟩ F.entry_list_extend (F.args_list_extend_2 _ _)
   (AutoSeq1.list_extend_list_list_0 l its.toArray n b its2.toArray n2 hlong (by rw [yfh];omega) (by omega)) ⟨e,e2,?_⟩
 refine ⟨.non,_,I.lset (its':=its++its2) hH e (by simp) (r.append r2) ?_,rfl,q⟩
 rw [ydq]
 omega
def qva:R2:=fun x y H Q=>∃l k xs,x = .ref l∧y = .int k∧H l=some (.lst xs)∧-(2^63)≤k∧k<2^63∧xs.length*k.toNat≤sizeLine ∧
 ∀p,H p=none→Q (.ref p) (upd H p (.lst (List.replicate k.toNat xs).flatten))
def qqQ {α:Type} (xs:List α) (k:Nat):(List.replicate k xs).flatten.length=k*xs.length:=by
 induction k with
 | zero=>simp
 | succ k ih=>rw [yfl,yfm,ydq,ih,yfo,Nat.add_comm]
def qrE:OpR X (binaryOp .Mult) qva:=by
 intro pins s σ H x y v u Q I rx ry h
 obtain ⟨l,k,xs,rfl,rfl,hH,h1,h2,hz,q⟩:=h
 cases rx
 obtain ⟨t,rfl⟩:=ry
 obtain ⟨z,its,n,r,hl,e⟩:=I.lstM hH
 have hlen:its.toArray.size*k.toNat≤sizeLine:=by rw [yfh,←hl];exact hz
 have hcap:¬its.toArray.size*k.toNat>(2^63-1)/8:=by
   have:(sizeLine:Nat)≤(2^63-1)/8:=by decide
   omega
 have hfit:¬(!Builtin.List.listFitsIndex k)=true:=by
   rw [fitsIndex_both h1 h2]
   exact yet
 have hlong:¬Builtin.List.listTooLong (its.toArray.size*k.toNat)=true:=by
   rw [qjY hlen]
   exact yet
 have hnew:List.foldl (fun x1 x2=>x1++x2) #[] (List.replicate (if its.toArray.isEmpty=true then 0 else k.toNat) its.toArray)=(List.replicate k.toNat its).flatten.toArray:=by
   have f0:∀m:Nat,List.foldl (fun x1 x2=>x1++x2) #[] (List.replicate m its.toArray)=(List.replicate m its).flatten.toArray:=fun m=>by
     have:=qhz its m []
     rw [List.nil_append] at this
     exact this
   rw [f0]
   cases its with
   | nil=>simp
   | cons a r'=>rw [if_neg (by simp)]
 refine wpAny_binaryOp_repeat_ref (T := "list") (U := "int") (by decide) ⟨_,e,rfl⟩ (fun s'=>typeIs_int s' k t) noFill_list_mul F.fills_int_mul F.slot_int_rmul repeat_list F.slot_int_index.lookup
   (call_meets F.slot_int_rmul (typeIs_int s k t) F.entry_int_rmul (F.args_int_rmul_2 _ _) (int___rmul___int_list k t l its.toArray n)
     ⟨e,rfl,⟨_,e,rfl⟩,call_meets F.slot_list_mul ⟨_,e,rfl⟩ F.entry_list_mul (F.args_list_mul_2 _ _) (AutoListH.list___mul___list_int_3 l its.toArray n k t hfit hcap hlong) ⟨e,?_⟩⟩)
 rw [hnew]
 exact ⟨.ref _,_,I.lnew (t':=s.toks) (r.rep k.toNat) (by rw [qqQ,yfp];exact hz),rfl,q _ I.fresh⟩
end
section
variable {prog:Program} {w:World} {A:Around} {E:Value→Shared→Prop} {s:Shared}
set_option maxRecDepth 100000 in
end
section
variable {X:Cx}
end
end L2
namespace L2
open PySem PySem.Spec PyProof.Rows
section
variable {κ:Type} [DecidableEq κ]
def qdc (kvs:List (κ×V)) (k:κ):Option V:=(kvs.find? fun kv=>decide (kv.1=k)).map (·.2)
def qip (kvs:List (κ×V)) (k:κ) (v:V):List (κ×V) :=
 if (kvs.any fun kv=>decide (kv.1=k))=true then kvs.map (fun kv=>if kv.1=k then (kv.1,v) else kv) else kvs++[(k,v)]
def qbj {p:κ×V} {r:List (κ×V)} {k:κ} (e:p.1=k):qdc (p::r) k=some p.2:=by simp [qdc,yfq,e]
def qbk {p:κ×V} {r:List (κ×V)} {k:κ} (e:¬p.1=k):qdc (p::r) k=qdc r k:=by simp [qdc,yfq,e]
def qdO (k:κ):∀kvs:List (κ×V),(kvs.any fun kv=>decide (kv.1=k))=(qdc kvs k).isSome
 | []=>rfl
 | p::r=>by
   rw [yfk]
   by_cases e:p.1=k
   · simp only [qbj e,decide_eq_true e,Bool.true_or,Option.isSome_some]
   · rw [qbk e,decide_eq_false e,Bool.false_or];exact qdO k r
def qjs (k j:κ) (y:V):∀kvs:List (κ×V),qdc (kvs.map fun kv=>if kv.1=k then (kv.1,y) else kv) j=(qdc kvs j).map fun x=>if j=k then y else x
 | []=>rfl
 | p::r=>by
   have ih:=qjs k j y r
   rw [ycf]
   by_cases h:p.1=k
   · rw [if_pos h]
     by_cases e:p.1=j
     · rw [qbj (p:=(p.1,y)) e,qbj e,yfr,if_pos (e.symm.trans h)]
     · rw [qbk (p:=(p.1,y)) e,qbk e,ih]
   · rw [if_neg h]
     by_cases e:p.1=j
     · rw [qbj (p:=p) e,qbj e,yfr,if_neg (fun z=>h (e.trans z))]
     · rw [qbk (p:=p) e,qbk e,ih]
def qid (k j:κ) (y:V):∀kvs:List (κ×V),qdc kvs k=none→qdc (kvs++[(k,y)]) j=if j=k then some y else qdc kvs j
 | [],_=>by
   by_cases e:k=j
   · rw [if_pos e.symm];exact qbj (p:=(k,y)) e
   · rw [if_neg (fun z=>e z.symm)];exact qbk (p:=(k,y)) e
 | p::r,hn=>by
   rw [yfs]
   have hk:¬p.1=k:=fun z=>by rw [qbj z] at hn;cases hn
   rw [qbk hk] at hn
   have ih:=qid k j y r hn
   by_cases e:p.1=j
   · rw [qbj e,qbj e,if_neg (fun z=>hk (e.trans z))]
   · rw [qbk e,qbk e,ih]
def qoj (kvs:List (κ×V)) (k j:κ) (y:V):qdc (qip kvs k y) j=if j=k then some y else qdc kvs j:=by
 unfold qip
 by_cases a:(kvs.any fun kv=>decide (kv.1=k))=true
 · rw [if_pos a,qjs]
   rw [qdO] at a
   by_cases e:j=k
   · obtain ⟨x,hx⟩:=yfa.mp a
     rw [if_pos e,e,hx,yfr,if_pos rfl]
   · rw [if_neg e]
     cases qdc kvs j with
     | none=>rfl
     | some x=>rw [yfr,if_neg e]
 · rw [if_neg a]
   refine qid k j y kvs ?_
   rw [qdO] at a
   cases q:qdc kvs k with
   | none=>rfl
   | some x=>rw [q] at a;exact (a rfl).elim
def qfM (kvs:List (κ×V)) (k:κ) (v:V):(qip kvs k v).length≤kvs.length+1:=by
 unfold qip
 split
 · rw [ycd];omega
 · rw [ydq,ycb,List.length_nil];omega
def qhs.isSome_eq {o:Option V} {u:Option Value} (r:qhs o u):o.isSome=u.isSome:=by
 cases o with
 | none=>cases u with
   | none=>rfl
   | some _=>exact (show False from r).elim
 | some _=>cases u with
   | none=>exact (show False from r).elim
   | some _=>rfl
def KV.val {kvs:List (κ×V)} {vs:List (κ×Value)} (r:KV kvs vs) (k:κ):qhs (qdc kvs k) (valueAt vs k):=by
 unfold KV at r
 induction r with
 | nil=>exact True.intro
 | @cons p q ps qs h t ih =>
   obtain ⟨h1,h2⟩:=h
   by_cases e:p.1=k
   · have e':q.1=k:=h1.symm.trans e
     have b:valueAt (q::qs) k=some q.2:=by simp [valueAt,yfq,e']
     rw [qbj e,b];exact h2
   · have e':¬q.1=k:=fun z=>e (h1.trans z)
     have b:valueAt (q::qs) k=valueAt qs k:=by simp [valueAt,yfq,e']
     rw [qbk e,b];exact ih
def KV.any {kvs:List (κ×V)} {vs:List (κ×Value)} (r:KV kvs vs) (k:κ):(kvs.any fun kv=>decide (kv.1=k))=vs.any fun kv=>decide (kv.1=k):=by
 unfold KV at r
 induction r with
 | nil=>rfl
 | cons h t ih=>rw [yfk,yfk,ih,h.1]
def KV.repl {kvs:List (κ×V)} {vs:List (κ×Value)} (r:KV kvs vs) (k:κ) {y:V} {u:Value} (ry:qbb y u) :
   KV (kvs.map fun kv=>if kv.1=k then (kv.1,y) else kv) (vs.map fun kv=>if kv.1=k then (kv.1,u) else kv):=by
 unfold KV at r ⊢
 induction r with
 | nil=>exact .nil
 | @cons p q ps qs h t ih =>
   rw [ycf,ycf]
   refine .cons ?_ ih
   obtain ⟨h1,h2⟩:=h
   by_cases e:p.1=k
   · rw [if_pos e,if_pos (h1.symm.trans e)];exact ⟨h1,ry⟩
   · rw [if_neg e,if_neg (fun z=>e (h1.trans z))];exact ⟨h1,h2⟩
def KV.put {kvs:List (κ×V)} {vs:List (κ×Value)} (r:KV kvs vs) (k:κ) {y:V} {u:Value} (ry:qbb y u):KV (qip kvs k y) (stored vs k u):=by
 unfold qip stored
 rw [r.any k]
 by_cases e:(vs.any fun kv=>decide (kv.1=k))=true
 · rw [if_pos e,if_pos e];exact r.repl k ry
 · rw [if_neg e,if_neg e];exact Paired.snoc r ⟨rfl,ry⟩
def KV.length {kvs:List (κ×V)} {vs:List (κ×Value)} (r:KV kvs vs):kvs.length=vs.length:=Paired.length r
end
def qka {P:Program} {w:World} {k:Key} {u:Value} (r:qbb (kV k) u):(qa0 P w).is k u=true:=by
 cases k with
 | inl i=>obtain ⟨t,e⟩:=(show ∃t,u=Value.int i t from r);subst e;exact qiO P w i t
 | inr x=>obtain ⟨t,e⟩:=(show ∃t,u=Value.str x t from r);subst e;exact qi0 P w x t
def qhV {P:Program} {w:World}:∀{ks:List Key} {us:List Value},qaV (ks.map kV) us→ItemsAre (qa0 P w) ks us
 | [],_,r=>by rw [yfi] at r;cases r;exact .nil
 | k::ks,_,r=>by
   rw [ycf] at r
   cases r with
   | cons h t=>exact .cons (qka h) (qhV t)
abbrev KT (H:Hp):List (List Key×V)→List (List Key×Addr×Value)→Prop:=Paired fun p q=>p.1=q.1∧H q.2.1=some (.tup (p.1.map kV))∧qbb p.2 q.2.2
def KT.val {H:Hp} {kvs:List (List Key×V)} {xs:List (List Key×Addr×Value)} (r:KT H kvs xs) (k:List Key):qhs (qdc kvs k) ((atKey xs k).map (·.2)):=by
 induction r with
 | nil=>exact True.intro
 | @cons p q ps qs h t ih =>
   obtain ⟨h1,_,h2⟩:=h
   by_cases e:p.1=k
   · have e':q.1=k:=h1.symm.trans e
     have b:atKey (q::qs) k=some q.2:=by simp [atKey,yfq,e']
     rw [qbj e,b];exact h2
   · have e':¬q.1=k:=fun z=>e (h1.trans z)
     have b:atKey (q::qs) k=atKey qs k:=by simp [atKey,yfq,e']
     rw [qbk e,b];exact ih
def KT.repl {H:Hp} {kvs:List (List Key×V)} {xs:List (List Key×Addr×Value)} (r:KT H kvs xs) (k:List Key) {y:V} {u:Value} (ry:qbb y u) :
   KT H (kvs.map fun kv=>if kv.1=k then (kv.1,y) else kv) (xs.map (putAt k u)):=by
 induction r with
 | nil=>exact .nil
 | @cons p q ps qs h t ih =>
   rw [ycf,ycf]
   refine .cons ?_ ih
   obtain ⟨h1,h2,h3⟩:=h
   unfold putAt
   by_cases e:p.1=k
   · rw [if_pos e,if_pos (h1.symm.trans e)];exact ⟨h1,h2,ry⟩
   · rw [if_neg e,if_neg (fun z=>e (h1.trans z))];exact ⟨h1,h2,h3⟩
def KT.put {H:Hp} {kvs:List (List Key×V)} {xs:List (List Key×Addr×Value)} (r:KT H kvs xs) (k:List Key) {b:Addr} {y:V} {u:Value} (hb:H b=some (.tup (k.map kV))) (ry:qbb y u) :
   KT H (qip kvs k y) (storedH xs k b u):=by
 have e:(kvs.any fun kv=>decide (kv.1=k))=(atKey xs k).isSome:=by
   rw [qdO,(r.val k).isSome_eq,Option.isSome_map]
 unfold qip storedH
 rw [e]
 by_cases q:(atKey xs k).isSome=true
 · rw [if_pos q,if_pos q];exact r.repl k ry
 · rw [if_neg q,if_neg q];exact Paired.snoc r ⟨rfl,hb,ry⟩
def KT.keeps {H H':Hp} {kvs:List (List Key×V)} {xs:List (List Key×Addr×Value)} (r:KT H kvs xs) (ht:∀b ys,H b=some (.tup ys)→H' b=some (.tup ys)):KT H' kvs xs :=
 Paired.mapP r fun _ _ z=>⟨z.1,ht _ _ z.2.1,z.2.2⟩
section
variable {P:Program} {w:World} {H:Hp} {h:Heap} {a:Addr}
def qth {u:HO} (ok:HOk P w H h) (e:Rd H a u):qbl P w H h a u:=e.ok ok
def qoC {kvs:List (Key×V)} (ok:HOk P w H h) (e:Rd H a (.dK kvs)):kvs.length≤sizeLine∧(a==sysModules)=false∧∃vs,KV kvs vs∧h.DictOf (qa0 P w) a vs :=
 show qbl P w H h a (.dK kvs) from qth ok e
def qua {kvs:List (Key×V)} (ok:HOk P w H h) (e:H a=some (.dK kvs)):kvs.length≤sizeLine∧(a==sysModules)=false∧∃vs,KV kvs vs∧h.DictOf (qa0 P w) a vs:=qoC ok (.inl e)
def qjq {ks:List Key} (ok:HOk P w H h) (e:H a=some (.tup (ks.map kV))):(tupleKind (qa0 P w)).is h ks a:=by
 obtain ⟨_,its,r,o,h1,h2,n,h3⟩:=(show qbl P w H h a (.tup (ks.map kV)) from ok a _ e)
 exact ⟨o,its.toArray,n,h1,h2,h3,by simpa using qhV r⟩
def qnM {kvs:List (List Key×V)} (ok:HOk P w H h) (e:Rd H a (.dT kvs)):kvs.length≤sizeLine∧(a==sysModules)=false ∧
   ∃xs,KT H kvs xs∧h.DictOfH (tupleKind (qa0 P w)) a xs:=by
 obtain ⟨z,y,xs,r,o,es,ep,h1,h2,h3,h4,h5⟩:=(show qbl P w H h a (.dT kvs) from qth ok e)
 refine ⟨z,y,xs,r,o,es,ep,h1,h2,h3,h4,fun x hx=>?_,h5⟩
 have all:∀{l:List (List Key×V)} {m:List (List Key×Addr×Value)},KT H l m→∀x∈m,(tupleKind (qa0 P w)).is h x.1 x.2.1:=by
   intro l m q
   induction q with
   | nil=>intro x hx;exact nomatch hx
   | @cons p q ps qs hq t ih =>
     intro x hx
     rcases ybg.mp hx with e | hx
     · subst e
       exact qjq ok (by rw [←hq.1];exact hq.2.1)
     · exact ih x hx
 exact all r x hx
def quk {kvs:List (List Key×V)} (ok:HOk P w H h) (e:H a=some (.dT kvs)):kvs.length≤sizeLine∧(a==sysModules)=false ∧
 ∃xs,KT H kvs xs∧h.DictOfH (tupleKind (qa0 P w)) a xs:=qnM ok (.inl e)
end
def qm6 (H:Hp) (a:Addr) (y:V) (r:Option V):Prop :=
 (∃kvs k,Rd H a (.dK kvs)∧y=kV k∧r=qdc kvs k)∨∃kvs k b,Rd H a (.dT kvs)∧y = .ref b∧H b=some (.tup (k.map kV))∧r=qdc kvs k
def qrp (H:Hp) (a:Addr) (y v:V) (H':Hp):Prop :=
 (∃kvs k,H a=some (.dK kvs)∧y=kV k∧kvs.length<sizeLine∧H'=upd H a (.dK (qip kvs k v))) ∨
 ∃kvs k b,H a=some (.dT kvs)∧y = .ref b∧H b=some (.tup (k.map kV))∧kvs.length<sizeLine∧H'=upd H a (.dT (qip kvs k v))
def qm6.k {H:Hp} {a:Addr} {kvs:List (Key×V)} {k:Key} (e:H a=some (.dK kvs)):qm6 H a (kV k) (qdc kvs k) := .inl ⟨kvs,k,.inl e,rfl,rfl⟩
def qrp.k {H:Hp} {a:Addr} {kvs:List (Key×V)} {k:Key} {v:V} (e:H a=some (.dK kvs)) (hl:kvs.length<sizeLine):qrp H a (kV k) v (upd H a (.dK (qip kvs k v))) := .inl ⟨kvs,k,e,rfl,hl,rfl⟩
section
variable {X:Cx} {pins:List (Addr×Obj)} {σ:St} {H:Hp} {s:Shared} {a:Addr} {y v:V} {u r:Value} {o:Option V} {A:Around} {E:Value→Shared→Prop}
def Inv.big (I:Inv X pins σ H s):sysModules<s.heap.objs.size:=by
 have h:mainGlobals<s.heap.objs.size:=(I.mod.glob.keeps I.bk).lt
 exact ybo (by decide) h
def qnc {Q:Value→Shared→Prop} (hu:A.units+1<cLine) (I:Inv X pins σ H s) (g:qm6 H a y (some v)) (ry:qbb y u) (h:∀w' s',Inv X pins σ H s'→qbb v w'→Q w' s') :
   wpAny (model X.prog X.w) A (getItem (.ref a) u) Q E s:=by
 rcases g with ⟨kvs,k,e,ey,l⟩ | ⟨kvs,k,b,e,ey,eb,l⟩
 · subst ey
   obtain ⟨z,hd,vs,rel,dd⟩:=qoC I.hok e
   obtain ⟨w',hw,rw'⟩:=qhs.some_of (v:=v) (o:=valueAt vs k) (by rw [l];exact rel.val k)
   exact wpAny_getItem_of (qka ry) dd.mapOf hw (h w' _ (I.tok _) rw')
 · subst ey
   cases (show u=Value.ref b from ry)
   obtain ⟨z,hd,xs,rel,dd⟩:=qnM I.hok e
   obtain ⟨w',hw,rw'⟩:=qhs.some_of (v:=v) (o:=(atKey xs k).map (·.2)) (by rw [l];exact rel.val k)
   obtain ⟨p,hp,hp2⟩:=Option.map_eq_some_iff.mp hw
   refine wpAny_getItem_heap (tupleKind_room_in1 hu) (qjq I.hok eb) dd hp ?_
   rw [hp2]
   exact h w' _ (I.tok _) rw'
def qrg {Q:Value→Shared→Prop} (hu:A.units+1<cLine) (I:Inv X pins σ H s) (g:qm6 H a y o) (ry:qbb y u) (h:∀s',Inv X pins σ H s'→Q (.bool (!o.isSome)) s') :
   wpAny (model X.prog X.w) A (compareOp .NotIn u (.ref a)) Q E s:=by
 rcases g with ⟨kvs,k,e,ey,l⟩ | ⟨kvs,k,b,e,ey,eb,l⟩
 · subst ey
   obtain ⟨z,hd,vs,rel,dd⟩:=qoC I.hok e
   refine wpAny_notIn_of (qka ry) hd dd.mapOf ?_
   rw [←(rel.val k).isSome_eq,←l]
   exact h _ (I.tok _)
 · subst ey
   cases (show u=Value.ref b from ry)
   obtain ⟨z,hd,xs,rel,dd⟩:=qnM I.hok e
   refine wpAny_notIn_heap (tupleKind_room_in1 hu) (qjq I.hok eb) hd dd ?_
   have q:=(rel.val k).isSome_eq
   rw [Option.isSome_map] at q
   rw [←q,←l]
   exact h _ (I.tok _)
def qlc {h':Heap} {t':Nat} {ob:HO} (I:Inv X pins σ H s) (mu:Mut (H a)) (hs:Heap.SameBut a s.heap h') (he:∃q,h'.get? a=some q) (new:qbl X.prog X.w (upd H a ob) h' a ob) :
   Inv X pins σ (upd H a ob) { s with heap:=h',toks:=t' } :=
 I.write (x:=a) (e:=a) mu (.inl rfl) (fun b q hb z=>(hs.2 b hb).trans z) he new
def qrS {P:Program} {w:World} {H':Hp} {h':Heap} {kvs:List (Key×V)} {vs:List (Key×Value)} (z:kvs.length≤sizeLine) (hd:(a==sysModules)=false) (rel:KV kvs vs) (dd:h'.DictOf (qa0 P w) a vs) :
 qbl P w H' h' a (.dK kvs):=⟨z,hd,vs,rel,dd⟩
def qly {H':Hp} {Q:Unit→Shared→Prop} (hu:A.units+1<cLine) (I:Inv X pins σ H s) (g:qrp H a y v H') (ry:qbb y u) (rv:qbb v r) (h:∀s',Inv X pins σ H' s'→Q () s') :
   wpAny (model X.prog X.w) A (setItem (.ref a) u r) Q E s:=by
 rcases g with ⟨kvs,k,e,ey,l,eH⟩ | ⟨kvs,k,b,e,ey,eb,l,eH⟩
 · subst ey eH
   obtain ⟨z,hd,vs,rel,dd⟩:=qua I.hok e
   have hz:vs.length≤sizeLine:=by rw [←rel.length];exact z
   have hl:(qip kvs k v).length≤sizeLine:=by have:=qfM kvs k v;omega
   refine wpAny_setItem_pairs (hsz:=hz) (qka ry) dd fun h' dd' hs=>h _ ?_
   have he:∃q,h'.get? a=some q:=let ⟨q,_,_,hq,_⟩:=dd';⟨q,hq⟩
   exact qlc I (by rw [e];exact True.intro) hs he (qrS hl hd (rel.put k rv) dd')
 · subst ey eH
   cases (show u=Value.ref b from ry)
   obtain ⟨z,hd,xs,rel,dd⟩:=quk I.hok e
   have hz:xs.length≤sizeLine:=by rw [←Paired.length rel];exact z
   have hl:(qip kvs k v).length≤sizeLine:=by have:=qfM kvs k v;omega
   refine wpAny_setItem_heap (hsz:=hz) (tupleKind_room_in1 hu) (qjq I.hok eb) dd fun h' dd' hs=>h _ ?_
   obtain ⟨q,es,ep,hq,h2,h3,h4,_,h5⟩:=dd'
   refine qlc I (by rw [e];exact True.intro) hs ⟨q,hq⟩ ⟨hl,hd,_,(rel.put k eb rv).keeps fun c ys ec=>?_,q,es,ep,hq,h2,h3,h4,h5⟩
   rw [qay (qtA ec e (fun z=>nomatch z))]
   exact ec
end
section
variable {X:Cx} {pins:List (Addr×Obj)} {σ:St} {H:Hp} {s:Shared} {a:Addr} {kvs:List (Key×V)} {k:Key} {u:Value} {A:Around} {E:Value→Shared→Prop}
end
def quo (i:Expr):Prop:=∀ov iv,subscripted i false ov iv=operate [ov,iv] (getItem ov iv)
def qlC {prog:Program} {w:World} {A:Around} {E:Value→Shared→Prop} {s:Shared} {env:Env} {value slice:Expr} {pos:Pos} {T id:String} {Q:Value→Shared→Prop}
   (hl:typeLookup (.type T) "__getitem__" = pure (some (.builtin id))) (hs:quo slice)
   (h:wpAny (model prog w) A (eval value env) (fun o s₁=>wpAny (model prog w) A (eval slice env) (fun i s₂=>s₂.TypeIs o T∧wpAny (model prog w) A (getItem o i) Q E s₂) E s₁) E s) :
   wpAny (model prog w) A (eval (.Subscript value slice pos) env) Q E s:=by
 refine Subscript_ (wpAny_mono h (fun o s₁ h₁=>wpAny_mono h₁ (fun i s₂ h₂=>?_) fun _ _ x=>x) fun _ _ x=>x)
 obtain ⟨hT,h₂⟩:=h₂
 unfold subscriptTail
 refine wpAny_bind ?_
 rw [getitemInPython_of_ne hT.not_modules]
 refine wpAny_bind (wpAny_specialOf hT hl ?_)
 have fin:wpAny (model prog w) A (subscripted slice false o i) (fun r s₃=>wpAny (model prog w) A (letTemporaryGo value o r >>= fun _=>pure r) Q E s₃) E s₂:=by
   rw [hs o i]
   exact wpAny_operating (wpAny_mono h₂ (fun r s₃ h₃=>wpAny_bind (wpAny_letTemporaryGo (wpAny_pure h₃))) fun _ _ x=>x)
 first
   | exact wpAny_pure (wpAny_bind fin)
   | exact wpAny_bind (wpAny_pure (wpAny_bind fin))
   | exact wpAny_bind fin
def qjd {X:Cx} {pins:List (Addr×Obj)} {σ:St} {H:Hp} {s:Shared} {a:Addr} {y:V} {o:Option V} (I:Inv X pins σ H s) (g:qm6 H a y o):s.TypeIs (.ref a) "dict" := by
 rcases g with ⟨kvs,k,e,_,_⟩ | ⟨kvs,k,b,e,_,_,_⟩
 · obtain ⟨_,_,vs,_,dd⟩:=qoC I.hok e
   exact dd.typeIs
 · obtain ⟨_,_,xs,_,dd⟩:=qnM I.hok e
   exact dd.typeIs
def qrV (td ty:TE):TE:=fun σ H Q=>td σ H fun x H1=>ty σ H1 fun y H2=>∃a v,x = .ref a∧qm6 H2 a y (some v)∧Q v H2
def quR (ty td:TE):TE:=fun σ H Q=>ty σ H fun y H1=>td σ H1 fun x H2=>∃a o,x = .ref a∧qm6 H2 a y o∧Q (.bl o.isSome) H2
def qlF (ty td:TE):TE:=fun σ H Q=>ty σ H fun y H1=>td σ H1 fun x H2=>∃a o,x = .ref a∧qm6 H2 a y o∧Q (.bl (!o.isSome)) H2
def qq5 (td ty tv:TE):TS:=fun D σ H=>tv σ H fun v H1=>td σ H1 fun x H2=>ty σ H2 fun y H3=>∃a H4,x = .ref a∧qrp H3 a y v H4∧D.nx σ H4
section
variable {X:Cx} {o i e value:Expr} {pos pos' tpos:Pos} {td ty tv:TE}
def qqf (hu:X.A.units+1<cLine) (ho:PE X o td) (hi:PE X i ty) (hs:quo i):PE X (.Subscript o i pos) (qrV td ty):=by
 intro pins s σ H Q I h
 refine qlC yft.lookup hs (thn (ho pins s σ H _ I h) fun u s1 ⟨x,H1,I1,rx,q1⟩=>thn (hi pins s1 σ H1 _ I1 q1) fun iv s2 ⟨y,H2,I2,ry,a,v,ex,g,q2⟩=>?_)
 subst ex
 obtain rfl:u=Value.ref a:=rx
 exact ⟨qjd I2 g,qnc hu I2 g ry fun w' s3 I3 rw'=>⟨v,H2,I3,rw',q2⟩⟩
def qhR (hu:X.A.units+1<cLine) (hi:PE X i ty) (ho:PE X o td):PC X .NotIn i o (qlF ty td):=by
 intro pins s σ H Q I h
 refine thn (hi pins s σ H _ I h) fun iv s1 ⟨y,H1,I1,ry,q1⟩=>thn (ho pins s1 σ H1 _ I1 q1) fun u s2 ⟨x,H2,I2,rx,a,ov,ex,g,q2⟩=>?_
 subst ex
 obtain rfl:u=Value.ref a:=rx
 exact qrg hu I2 g ry fun s3 I3=>⟨.bl (!ov.isSome),H2,I3,rfl,q2⟩
def qqZ (hu:X.A.units+1<cLine) (ho:PE X o td) (hi:PE X i ty) (hv:PE X value tv) (hs:swapsWith value (some (.Subscript o i pos')) pos.line X.env=pure false) :
   PS X (.Assign [.Subscript o i pos'] value pos) (qq5 td ty tv):=by
 intro pins s σ H D I h
 refine wpAny_Assign_Subscript (thn (hv pins s σ H _ I h) fun r s1 ⟨v,H1,I1,rv,q1⟩=>thn (ho pins s1 σ H1 _ I1 q1) fun u s2 ⟨x,H2,I2,rx,q2⟩=>thn (hi pins s2 σ H2 _ I2 q2) fun iv s3 ⟨y,H3,I3,ry,a,H4,ex,g,q3⟩=>?_) hs
 subst ex
 obtain rfl:u=Value.ref a:=rx
 exact qly hu I3 g ry rv fun s4 I4=>⟨σ,H4,I4,q3⟩
end
def qnD {P:Program} {w:World} {H:Hp} (h:Heap) (hb:sysModules<h.objs.size):qbl P w H (h.push { cls := .type "dict",data := .dict #[] }) h.objs.size (.dK []) :=
 ⟨ybz _,beq_eq_false_iff_ne.mpr (Ne.symm (ydx hb)),[],.nil,Heap.DictOf.new h⟩
def qpm:TE:=fun _ H Q=>∀p,H p=none→Q (.ref p) (upd H p (.dK []))
section
variable {X:Cx} {pos:Pos}
def qob:PE X (.Dict [] [] pos) qpm:=fun pins s σ H Q I h =>
 wpAny_Dict_empty ⟨.ref s.heap.objs.size,_,I.laid (a:=s.heap.objs.size) (o := .dK []) (t':=s.toks) (fun _ _ q=>ydu _ q) (yba _) (qnD s.heap I.big),rfl,h _ (I.hok.fresh (yba _))⟩
end
structure M1 (X:Cx) (o:Expr) (m:Str) (apos:Pos) (e:Expr) (cpos:Pos):Prop where
 base:attributeBase o m X.env (eval o X.env)=eval o X.env
 few:((backTo cpos (starEach [e] X.env)).all (fun x=>!x.1)&&(backToKw cpos (keywordEach [] X.env)).all (fun x=>x.1.isSome)
   && decide (([e]:List Expr).length+([]:List Keyword).length+(if ([]:List Keyword).isEmpty then 0 else 1)<30))=true
 line:(apos.endLine==cpos.line)=true
 trees:backTo cpos (starEach [e] X.env)=[(false,eval e X.env)]
structure M2 (X:Cx) (o:Expr) (m:Str) (apos:Pos) (e f:Expr) (cpos:Pos):Prop where
 base:attributeBase o m X.env (eval o X.env)=eval o X.env
 few:((backTo cpos (starEach [e,f] X.env)).all (fun x=>!x.1)&&(backToKw cpos (keywordEach [] X.env)).all (fun x=>x.1.isSome)
   && decide (([e,f]:List Expr).length+([]:List Keyword).length+(if ([]:List Keyword).isEmpty then 0 else 1)<30))=true
 line:(apos.endLine==cpos.line)=true
 trees:backTo cpos (starEach [e,f] X.env)=[(false,eval e X.env),(false,eval f X.env)]
section
variable {X:Cx} {pins:List (Addr×Obj)} {σ:St} {H:Hp} {s:Shared} {a:Addr} {y d:V} {u r:Value} {o:Option V} {A:Around} {E:Value→Shared→Prop}
end
section
variable {X:Cx} {o e f:Expr} {apos cpos:Pos} {td ty tx:TE}
end
section
variable {X:Cx} {pins:List (Addr×Obj)} {σ:St} {H:Hp} {s:Shared} {a:Addr} {kvs:List (Key×V)} {A:Around} {E:Value→Shared→Prop}
end
section
variable {X:Cx} {pins:List (Addr×Obj)} {σ:St} {H:Hp} {s:Shared} {a:Addr} {y:V} {u:Value} {A:Around} {E:Value→Shared→Prop}
end
end L2
namespace Att
open PySem PySem.W PySem.Calls PyProof.Rows
def qfD {P:Params} {h:Heap}:∀(ns:List Int) (vs:List Value),WellAll P h vs (ns.map WData.int)→IntsAre vs ns:=by
 intro ns
 induction ns with
 | nil =>
   intro vs w
   rw [yfi] at w
   cases w
   exact .nil
 | cons n ns ih =>
   intro vs w
   rw [ycf] at w
   cases w with
   | cons a b =>
     cases a
     exact .cons _ _ (ih _ b)
def qmm {l:OpenLaw} {n:Nat} (hn:l.most=some n) {P:Params} {h:Heap} {args:List WData} {vals:List Value}
   (hpre:l.row.toRowW.claim.pre args=true) (hwl:WellAll P h vals args) :
   ∃a vs ns,vals=[Value.ref a]∧args=[WData.list (ns.map WData.int)]∧h.get? a=some { cls := .type "list",data := .seq vs.toArray }∧IntsAre vs ns∧ns.length≤n:=by
 have hsh:WShape.hasAll [] args [.list .int]=true:=(pre_splitW hpre).1
 have hc:l.pre.holds [] { args:=args }=true:=(pre_splitW hpre).2
 obtain ⟨d,r,rfl,h1,h2⟩:=hasAllW_cons hsh
 obtain rfl:=hasAllW_nil h2
 obtain ⟨xs,rfl,h3⟩:=hasW_list h1
 obtain ⟨ns,rfl⟩:=items_int h3
 have hlen:ns.length≤n:=by
   unfold OpenLaw.pre at hc
   have h4:(WTm.not (.lt (.lit (.int (n:Int))) (.len (.arg 0)))).holds [] { args:=[.list (ns.map .int)] }=true:=by
     have h4:=(holds_andW hc).1
     rw [hn] at h4
     exact h4
   have h5:=condW_of h4 (w_not (w_lt w_lit (w_len_list (w_arg rfl))))
   rw [ycd] at h5
   refine Nat.le_of_not_lt fun q=>?_
   have q':(n:Int)<((ns.length:Nat):Int):=by omega
   first
     | (rw [decide_eq_true q'] at h5;exact absurd h5 (by decide))
     | (simp at h5;omega)
 cases hwl with
 | cons w1 w2 =>
   cases w2
   cases w1 with
   | list ho hall=>exact ⟨_,_,ns,rfl,rfl,ho,qfD ns _ hall,hlen⟩
def qmp (l:OpenLaw) (args:List WData):l.row.toRowW.claim.post args (.bool true) args=true :=
 postW_of (r:=l.row.toRowW) (X:=(true==true))
   (show WShape.has [] (.bool true) .bool=true by first | rfl | decide | simp [WShape.has,WShape.arms,WShape.armsAll])
   (show (WTm.eq .res (.lit (.bool true))).value [] { args:=args,res:=some (.bool true),after:=args }=some (.bool (true==true)) from w_eq_bool (w_res rfl) w_lit) rfl
def attach_call {l:OpenLaw} {n:Nat} {q:Program} {loose:List Str} {XP:(Str→Option Value)→Heap→Prop} {YP:World→Heap→Prop} {d:DefRec}
   (hn:l.most=some n) (hdf:d.params.defaults=[])
   (call:∀(w:World) (s₀ s₁:Shared) (mg mb:Str→Option Value) (fa:Addr) (o:Obj) (pm cd doc:Value) (a:Addr) (vs:List Value) (ns:List Int),
     Ground q loose [] XP w s₀ mg mb s₁.heap→YP w s₁.heap →
     s₁.heap.get? fa=some o→o.data = .func (docDef d.name d.params d.body d.scope pm cd doc)→s₁.heap.CodeRec cd d.name→mg d.name=some (.ref fa) →
     s₁.heap.get? a=some { cls := .type "list",data := .seq vs.toArray }→IntsAre vs ns→ns.length≤n→s₁.gens = #[] →
     codeAny (model l.prog w) callerA (.call (.ref fa) ⟨[.ref a],[]⟩) (fun r s'=>r = .ok (.ret (.bool true))∧OldK s₁.heap s'.heap∧s'.os=s₁.os∧AllBare s'.gens) s₁) :
   WalkO q loose XP YP l.row.toRowW d [] (fun f vs=>PySem.call f vs):=by
 intro w s₀ s₁ mg mb G Y fa o pm cd doc dV kV ho hd hcd hD hmg hg args vals as hpre hlay hrd hwl hlo
 obtain rfl:dV = .none:=Dflts.none hD hdf
 obtain rfl:kV = .none:=Dflts.noKw hD
 obtain ⟨a,vs,ns,rfl,rfl,hobj,hints,hlen⟩:=qmm hn hpre hwl
 refine enter_call (codeAny_mono (call w s₀ s₁ mg mb fa o pm cd doc a vs ns G Y ho (fd_plain hd) hcd hmg hobj hints hlen hg) fun r s' hq=>?_)
 obtain ⟨rfl,h2,h3,h4⟩:=hq
 exact ⟨.inl ⟨.bool true,.bool true,[],rfl,fun _=>rfl,.bool true,qmp l _,fun _=>⟨List.Pairwise.nil,fun _ hm=>(nomatch hm)⟩⟩,h2,h3,h4⟩
section
variable {prog:Program} {w:World} {A:Around} {E:Value→Shared→Prop} {s:Shared} {K:Frag}
end
end Att
namespace L2
open PySem PySem.Spec PyProof.Rows
def qd4:∀{vs:List Value} {ns:List Int},IntsAre vs ns→qaV (ns.map V.int) vs
 | _,_,.nil => .nil
 | _,_,.cons n t h => .cons ⟨t,rfl⟩ (qd4 h)
def qt7 (H:Hp):Prop:=∀b,H b=none∨∃o xs,H b=some (.frz o (.lst xs))
def qnE {P:Program} {w:World} {K:PySem.W.Frag} {mg mb:Str→Option Value} {CX:CXT} {k:Nat} {fa a:Addr} {fd:FuncData} {x:Str} {sp:Sp} {s₁:Shared} {vs:List Value} {ns:List Int}
   (KX:K.In s₁.heap) (hns:s₁.heap.Ns mainGlobals mg) (hb:s₁.heap.Ns builtinsNs mb) (hbb:∀x:Str,x ≠ "__name__" → mb x=bootBuiltins x) (hlim:s₁.heap.NoLimit) (hg:s₁.gens = #[])
   (ha:s₁.heap.get? a=some { cls := .type "list",data := .seq vs.toArray }) (hi:IntsAre vs ns) (hl:ns.length≤sizeLine) (hr:qdB k callerA)
   (F:∀base:Heap,K.In base→base.Ns mainGlobals mg→qaQ P w K mg base CX k fa fd [x] sp) (hbind:∀(s:Shared) (u:Value),BindsTo s fd ⟨[u],[]⟩ [(x,u)])
   (hsp:∀H:Hp,qt7 H→SqL K H a (ns.map V.int)→sp [.ref a] H (fun v _=>v = .bl true) fun _ _ _=>False)
   (hCX:∀H e s',CX [] H s₁ (fun _ _ _=>False) e s'→False) :
   codeAny (model P w) callerA (.call (.ref fa) ⟨[.ref a],[]⟩) (fun r s'=>r = .ok (.ret (.bool true))∧OldK s₁.heap s'.heap∧s'.os=s₁.os∧AllBare s'.gens) s₁:=by
 have rv:=qd4 hi
 have lenV:=hi.length
 -- from an abstract heap in which nothing but the script may be tracked
 have core:∀H:Hp,qt7 H→SqL K H a (ns.map V.int)→HOk P w H s₁.heap→(∀b,H b≠none→b=a)→(H a≠none→K.lookup a=none) →
     codeAny (model P w) callerA (.call (.ref fa) ⟨[.ref a],[]⟩) (fun r s'=>r = .ok (.ret (.bool true))∧OldK s₁.heap s'.heap∧s'.os=s₁.os∧AllBare s'.gens) s₁:=by
   intro H hO hS hok hA hK
   have base_of:∀{b:Addr} {o:Obj},s₁.heap.get? b=some o→H b=none→(qnl s₁.heap H).get? b=some o:=fun e n=>qns e n
   have noA:∀{b:Addr} {o:Obj} {es:Array DictEntry} {ep:Nat},s₁.heap.get? b=some o→o.data = .dict es ep→H b=none:=fun {b o es ep} e d=>by
     cases q:H b with
     | none=>rfl
     | some u =>
       have e':b=a:=hA b (by rw [q];simp)
       subst e'
       rw [ha] at e;cases e
       have d':Data.seq vs.toArray _=Data.dict es ep:=d
       cases d'
   have nsK:∀{b:Addr} {m:Str→Option Value},s₁.heap.Ns b m→(qnl s₁.heap H).Ns b m:=fun {b m} ⟨o,es,ep,e,d,r⟩=>⟨o,es,ep,base_of e (noA e d),d,r⟩
   have hKb:K.In (qnl s₁.heap H):=fun b o e=>base_of (KX b o e) (by
     cases q:H b with
     | none=>rfl
     | some u =>
       have e':b=a:=hA b (by rw [q];simp)
       subst e'
       rw [hK (by rw [q];simp)] at e;cases e)
   have hM:Mod K mg (qnl s₁.heap H):=⟨hKb,nsK hns,⟨mb,nsK hb,hbb⟩,let ⟨mc,h1,h2⟩:=hlim;⟨mc,nsK h1,h2⟩⟩
   have e0:qri P w K mg (qnl s₁.heap H) callerA [] s₁ H:=⟨rfl,hM,fun b o e=>qqb e,yeh (qmq _ _),trivial,fun b hb=>absurd (show b∈([]:List Addr) from hb) (by simp),hok,.of_eq hg⟩
   refine codeAny_mono ((F _ hKb (nsK hns)).run callerA [] s₁ H ⟨[.ref a],[]⟩ [.ref a] [.ref a] _ _ hr e0 (hbind s₁ (.ref a)) (.cons rfl .nil) (hsp H hO hS)) fun r s' h=>?_
   cases r with
   | error e=>exact (hCX H e s' h).elim
   | ok fl =>
     cases fl with
     | next=>exact False.elim h
     | brk=>exact False.elim h
     | cont=>exact False.elim h
     | ret u =>
       obtain ⟨v,H',os,bare,un,hok',r',q⟩:=h
       have q':v = .bl true:=q
       subst q'
       obtain rfl:u=Value.bool true:=r'
       refine ⟨rfl,OldK.of_keep fun b o e=>?_,os,bare⟩
       cases q:H b with
       | none=>exact un.keep b o e q (by intro z;exact absurd (show b∈([]:List Addr) from z) (by simp)) (by simp)
       | some u =>
         rcases hO b with z | ⟨ob,xs,z⟩
         · rw [q] at z;cases z
         · have z2:=un.frzs b ob _ z
           obtain ⟨e1,_⟩:=hok b _ z
           obtain ⟨e2,_⟩:=hok' b _ z2
           rw [e] at e1;cases e1
           exact e2
 cases hk:K.lookup a with
 | some o =>
   -- the script is one of the module's own objects
   have e:=KX a o hk
   rw [ha] at e
   cases e
   refine core (fun _=>none) (fun _ => .inl rfl) (.inr ⟨_,vs.toArray,_,hk,rfl,rfl,rfl,by rw [yfh,lenV];exact hl,by simpa using rv⟩) (fun b u z=>by have z':(none:Option HO)=some u:=z;cases z') (fun b z=>absurd rfl z) fun z=>absurd rfl z
 | none =>
   refine core (fun b=>if b=a then some (.frz { cls := .type "list",data := .seq vs.toArray } (.lst (ns.map V.int))) else none) (fun b=>?_) (.inl (.inr ⟨{ cls := .type "list",data := .seq vs.toArray },if_pos rfl⟩)) (fun b u z=>?_) (fun b z=>?_) fun _=>hk
   · by_cases hb:b=a
     · exact .inr ⟨_,_,if_pos hb⟩
     · exact .inl (if_neg hb)
   · by_cases hb:b=a
     · have z':=(if_pos hb).symm.trans z
       cases z'
       subst hb
       exact ⟨ha,by rw [ycd];exact hl,vs,_,rv,ha⟩
     · have z':=(if_neg hb).symm.trans z
       cases z'
   · by_cases hb:b=a
     · exact hb
     · exact absurd (if_neg hb) z
end L2
namespace L2
open PySem PySem.Spec PyProof.Rows
def walk_of {l:PySem.W.OpenLaw} {n k:Nat} {q:Program} {loose:List Str} {XP:(Str→Option Value)→Heap→Prop} {YP:World→Heap→Prop} {d:DefRec} {K:Params→PySem.W.Frag} {CX:World→CXT} {sp:World→Sp} {x:Str}
   (hn:l.most=some n) (hn2:n≤sizeLine) (hdf:d.params.defaults=[]) (hr:qdB k callerA)
   (hY:∀(w:World) (h:Heap),YP w h→(K w.params).In h)
   (F:∀(w:World) (mg:Str→Option Value) (fa:Addr) (h:Heap),(K w.params).In h→h.Ns mainGlobals mg→mg d.name=some (.ref fa) →
     ∃fd:FuncData,(∀(s:Shared) (u:Value),BindsTo s fd ⟨[u],[]⟩ [(x,u)]) ∧
       ∀base:Heap,(K w.params).In base→base.Ns mainGlobals mg→qaQ l.prog w (K w.params) mg base (CX w) k fa fd [x] (sp w))
   (hsp:∀(w:World) (H:Hp) (a:Addr) (ns:List Int),ns.length≤n→qt7 H→SqL (K w.params) H a (ns.map V.int)→sp w [.ref a] H (fun v _=>v = .bl true) fun _ _ _=>False)
   (hCX:∀(w:World) (H:Hp) (s:Shared) (e:Value) (s':Shared),CX w [] H s (fun _ _ _=>False) e s'→False) :
   PySem.W.WalkO q loose XP YP l.row.toRowW d [] (fun f vs=>PySem.call f vs):=by
 refine Att.attach_call hn hdf fun w s₀ s₁ mg mb fa o pm cd doc a vs ns G Y ho hd hcd hmg hobj hints hlen hg=>?_
 have KX:=hY w _ Y
 obtain ⟨fd,hb,hF⟩:=F w mg fa _ KX G.T.g hmg
 exact qnE KX G.T.g G.T.b G.T.builtins G.T.nolimit hg hobj hints (ydc hlen hn2) hr hF hb (fun H hO hS=>hsp w H a ns hlen hO hS) fun H e s'=>hCX w H s₁ e s'
end L2
namespace L2
open PySem PySem.Spec PyProof.Rows
def qfg (s:Stmt) (j:Nat):Stmt:=match s with
 | .ClassDef _ _ _ body _ _ _ _ _ _ _=>body.getD j (.Pass ⟨0,0,0,0⟩)
 | _ => .Pass ⟨0,0,0,0⟩
def qb0 (s:Stmt):Arguments:=match s with
 | .FunctionDef _ a _ _ _ _ _ _ _ _=>a
 | _=>{ posonlyargs:=[],args:=[],vararg:=none,kwonlyargs:=[],kw_defaults:=[],kwarg:=none,defaults:=[] }
def qbI (s:Stmt):List Stmt:=match s with
 | .FunctionDef _ _ b _ _ _ _ _ _ _=>b
 | _=>[]
def qag (s:Stmt):Scope:=match s with
 | .FunctionDef _ _ _ _ _ _ sc _ _ _=>sc
 | _=>{ kind := .function,names:=[],isGenerator:=false,isCoroutine:=false }
abbrev CX0:CXT:=fun _ _ _ _ _ _=>False
abbrev E0:XK:=fun _ _ _=>False
def qrh {X:Cx}:qf8 CX0 X E0:=fun _ _ _ _ _ _ _ h=>h.elim
structure Fun (K:PySem.W.Frag) (x qual:Str) (st:Stmt) (f:Addr) (fd:FuncData):Prop where
 ex:∃(oc:Value) (od:Option Addr) (kV doc pm:Value) (an:Option Addr) (cdv ct:Value) (osl:Array (Option Value)),
   fd=PySem.W.fnOf x qual (qb0 st) (qbI st) (qag st) .none kV doc pm an cdv ct∧K.lookup f=some ⟨oc,od,.func fd,osl⟩∧PySem.W.codeIn K cdv qual=true
 kp:PySem.W.keepIn K (.ref f)=true
section
variable {P:Program} {w:World} {K:PySem.W.Frag} {mg:Str→Option Value} {base:Heap}
def Fun.ok {x qual:Str} {st:Stmt} {f:Addr} {fd:FuncData} {N ps:List Str} {k:Nat} {sp:Sp} (F:Fun K x qual st f fd) (S:qam N ps (qag st)) (len:∀vs H Q E,sp vs H Q E→vs.length=ps.length)
   (hbody:∀(cdv:Value) (A:Around) (outer:List Env) (s:Shared) (H:Hp) (vs:List V) (Q:VK) (E:XK),qdB k (A.deeper (envOfC qual (qag st) s.heap.objs.size f cdv))→sp vs H Q E →
     ∃t,PSs (qqq CX0 P w K mg base N qual (qag st) f cdv A outer s H E).nox (qbI st) t∧t { nx:=fun _ H'=>Q .non H',rt:=Q } (qhq N vs) H):qaQ P w K mg base CX0 (k+1) f fd ps sp:=by
 obtain ⟨oc,od,kV,doc,pm,an,cdv,ct,osl,rfl,lk,hcd⟩:=F.ex
 refine qup lk hcd S len fun A outer s H vs Q E hr hsp=>?_
 obtain ⟨t,h,q⟩:=hbody cdv A outer s H vs Q E hr hsp
 exact ⟨t,h.nox,q⟩
def Fun.binds {x qual:Str} {st:Stmt} {f:Addr} {fd:FuncData} {ps:List Str} (F:Fun K x qual st f fd)
   (h:∀(kV doc pm:Value) (an:Option Addr) (cdv ct:Value) (us:List Value),us.length=ps.length→bindArgs (PySem.W.fnOf x qual (qb0 st) (qbI st) (qag st) .none kV doc pm an cdv ct) ⟨us,[]⟩=pure (ps.zip us)):qdx K fd ps []:=by
 obtain ⟨oc,od,kV,doc,pm,an,cdv,ct,osl,rfl,lk,hcd⟩:=F.ex
 exact .all (h kV doc pm an cdv ct)
def qlW {x qual:Str} {st:Stmt} {f:Addr} {oc:Value} {od an:Option Addr} {osl:Array (Option Value)} {kV doc pm cdv ct:Value} (l:K.lookup f=some ⟨oc,od,.func (PySem.W.fnOf x qual (qb0 st) (qbI st) (qag st) .none kV doc pm an cdv ct),osl⟩)
 (c:PySem.W.codeIn K cdv qual=true) (k:PySem.W.keepIn K (.ref f)=true):Fun K x qual st f (PySem.W.fnOf x qual (qb0 st) (qbI st) (qag st) .none kV doc pm an cdv ct):=⟨⟨oc,od,kV,doc,pm,an,cdv,ct,osl,rfl,l,c⟩,k⟩
end
def qoA {A:Around} {k:Nat} (hr:qdB k A):A.units+1<cLine:=ybl (Nat.add_le_add_left (by decide:1≤64) _) hr.units
section
variable {X:Cx}
def pv (i:Nat) {x:Str} {pos:Pos} (hN:X.N[i]?=some x:=by rfl) (hv:Vis X.env.scope x:=by first | exact Or.inl rfl | exact Or.inr (Or.inl rfl) | exact Or.inr (Or.inr rfl)) (hd:(x==("__debug__" : Str))=false:=by decide)
 (hcd:(x==("__classdict__" : Str))=false:=by decide):PE X (.Name x pos) (qtJ i):=qsS hN hv hd hcd
end
def qc4 {A B:Prop} (h:B):if false=true then A else B:=by
 rw [if_neg yet]
 exact h
def qez {A B:Prop} (h:A):if true=true then A else B:=by
 rw [if_pos rfl]
 exact h
def qjy {c A B:Prop} [Decidable c] (h1:c→A) (h2:¬c→B):if c then A else B:=by
 by_cases h:c
 · rw [if_pos h]
   exact h1 h
 · rw [if_neg h]
   exact h2 h
def qar (H H':Hp):Prop:=∀b o,H b=some o→H' b=some o
def qar.refl (H:Hp):qar H H:=fun _ _ h=>h
def qar.trans {H H1 H2:Hp} (a:qar H H1) (b:qar H1 H2):qar H H2:=fun c o h=>b c o (a c o h)
def qar.seq {K:PySem.W.Frag} {H H':Hp} {a:Addr} {xs:List V} (e:qar H H') (h:SqL K H a xs):SqL K H' a xs:=by
 rcases h with (h | ⟨o,h⟩) | h
 · exact .inl (.inl (e _ _ h))
 · exact .inl (.inr ⟨o,e _ _ h⟩)
 · exact .inr h
end L2
namespace L2
open PySem
def qdm {env:Env}:∀(names:List (Str×NameKind)) (init:List (Str×Addr)),(∀n k,(n,k)∈names→k = .free→∃c,env.cells.lookup n=some c) →
   (∀n c,init.lookup n=some c→env.cells.lookup n=some c) →
   ∃cl,(forIn names init fun (x:Str×NameKind) (cs:List (Str×Addr))=>(match x with
     | (name,kind)=>if (kind==NameKind.free)=true then (do let a ←cellOf env name;pure (ForInStep.yield ((name,a)::cs))) else pure (ForInStep.yield cs):Sem (ForInStep (List (Str×Addr)))))=(pure cl:Sem (List (Str×Addr))) ∧
     (∀n c,cl.lookup n=some c→env.cells.lookup n=some c)∧(∀n,(n,NameKind.free)∈names∨(∃c,init.lookup n=some c)→∃c,cl.lookup n=some c)
 | [],init,_,h1=>⟨init,rfl,h1,fun n h=>by rcases h with h | h;cases h;exact h⟩
 | (nm,k)::r,init,h0,h1=>by
   by_cases hk:k = .free
   · obtain ⟨c,hc⟩:=h0 nm k ybe hk
     have h1':∀n c',((nm,c)::init).lookup n=some c'→env.cells.lookup n=some c':=fun n c' e=>by
       rw [yfu] at e
       split at e
       · rename_i he
         have:n=nm:=by simpa using he
         subst this;cases e;exact hc
       · exact h1 n c' e
     obtain ⟨cl,e1,e2,e3⟩:=qdm r ((nm,c)::init) (fun n k' hm=>h0 n k' (ybh _ hm)) h1'
     refine ⟨cl,?_,e2,fun n hn=>e3 n ?_⟩
     · rw [yfv]
       subst hk
       have:cellOf env nm=pure c:=by unfold cellOf;rw [hc]
       simp only [this]
       exact e1
     · rcases hn with hn | ⟨c',hn⟩
       · rcases ybg.mp hn with e | e
         · cases e
           exact .inr ⟨c,by simp [yfu]⟩
         · exact .inl e
       · right
         rw [yfu]
         split
         · exact ⟨_,rfl⟩
         · exact ⟨c',hn⟩
   · obtain ⟨cl,e1,e2,e3⟩:=qdm r init (fun n k' hm=>h0 n k' (ybh _ hm)) h1
     refine ⟨cl,?_,e2,fun n hn=>e3 n ?_⟩
     · rw [yfv]
       have:(k==NameKind.free)=false:=by simpa using hk
       simp only [this]
       exact e1
     · rcases hn with hn | hn
       · rcases ybg.mp hn with e | e
         · cases e;exact absurd rfl hk
         · exact .inl e
       · exact .inr hn
def qeK {scope:Scope} {env:Env} (h:∀n,(n,NameKind.free)∈scope.names→∃c,env.cells.lookup n=some c) :
   ∃cl,closureFor scope env=pure cl∧(∀n c,cl.lookup n=some c→env.cells.lookup n=some c)∧(∀n,(n,NameKind.free)∈scope.names→∃c,cl.lookup n=some c):=by
 obtain ⟨cl,e1,e2,e3⟩:=qdm (env:=env) scope.names [] (fun n k hm hk=>h n (hk▸hm)) (fun n c e=>by cases e)
 refine ⟨cl,?_,e2,fun n hn=>e3 n (.inl hn)⟩
 have e:closureFor scope env=((forIn scope.names ([]:List (Str×Addr)) fun (x:Str×NameKind) (cs:List (Str×Addr))=>(match x with
     | (name,kind)=>if (kind==NameKind.free)=true then (do let a ←cellOf env name;pure (ForInStep.yield ((name,a)::cs))) else pure (ForInStep.yield cs):Sem (ForInStep (List (Str×Addr))))) >>= fun r=>pure r):=rfl
 rw [e,e1]
 rfl
end L2
namespace L2
open PySem PySem.Spec PyProof.Rows
section
variable {X:Cx} {pins:List (Addr×Obj)} {σ:St} {H:Hp} {s:Shared}
def Inv.track {p:Addr} {o:HO} (I:Inv X pins σ H s) (f:qj4 X pins H p) (new:qbl X.prog X.w (upd H p o) s.heap p o):Inv X pins σ (upd H p o) s:=by
 obtain ⟨f0,f1,f2,f3,f4,f5⟩:=f
 have nit:∀b u,H b=some u→b≠p:=fun b u e z=>by rw [z,f0] at e;cases e
 refine I.step (h':=s.heap) (g':=s.gens) (d':=s.drawn) (t':=s.toks) (ch:=[p]) (fun b hb=>?_) (fun b o _ _ _ e _=>e) (fun b o _ _ _ e _=>⟨o.slots,e⟩)
   (fun b o hc e n=>by rw [qay (fun z=>hc (by simp [z]))];exact n) (fun b o _ e=>⟨o,e⟩) (fun b xs e=>by rw [qay (nit b _ e)];exact e) (fun b o u e=>by rw [qay (nit b _ e)];exact e)
   (fun b ps e=>⟨#[],by rw [qay (nit b _ e),e];simp⟩) (fun m hm=>hm) (fun b u e=>?_) I.bare
 · have e:b=p:=by simpa using hb
   subst e
   exact ⟨f3,f1,f4,f5⟩
 · by_cases hb:b=p
   · subst hb;rw [qaf] at e;cases e;exact new
   · rw [qay hb] at e
     exact (I.hok b u e).stay (fun c v _ q=>q) (fun c q=>by rw [qay (nit c _ q)];exact q) fun c xs q=>by rw [qay (nit c _ q)];exact q
end
section
variable {prog:Program} {w:World} {A:Around} {R:Result→Shared→Prop} {s:Shared}
def qhN {elt target iter:Expr} {ifs:List Expr} {scope:Scope} {pos:Pos} {it acc:Value} {env:Env} (I:Nat→Shared→Prop)
   (turn:∀n s,I n s→wpAny (model prog w) A (pyNext it) (fun r s₁=>match r with
     | none=>R (.ok .next) s₁
     | some v=>wpAny (model prog w) A (letOwnedTupleGo target it v) (fun _ s₁'=>wpAny (model prog w) A (assign target env v) (fun _ s₂ =>
         wpAny (model prog w) A (forIn ifs true fun c r=>if r=true then do let ok ←isTrue c env (eval c env);pure (ForInStep.yield ok) else pure (ForInStep.yield r)) (fun ok s₃ =>
           if ok=true then wpAny (model prog w) A (eval elt env) (fun x s₄ =>
             wpAny (model prog w) A (call (.builtin "list.append") [acc,x]) (fun _ s₅=>∃m,m<n∧I m s₅) (fun _ _=>False) s₄) (fun _ _=>False) s₃
           else ∃m,m<n∧I m s₃) (fun _ _=>False) s₂) (fun _ _=>False) s₁') (fun _ _=>False) s₁) (fun _ _=>False) s)
   (n:Nat) (h:I n s):codeAny (model prog w) A (.compLoop (.ListComp elt [⟨target,iter,ifs,0⟩] scope pos) 0 it acc env) R s:=by
 refine codeAny_loop rfl I (fun n s hI=>?_) n h
 show wpAny _ A ((compTurn (.ListComp elt [⟨target,iter,ifs,0⟩] scope pos) 0 it acc env).onRaise (fun x=>do noteFrame x env;theTreesLotGoes x)) _ _ s
 refine wpAny_noted (wpAny_noRaise ?_)
 rw [compTurn_list]
 refine wpAny_bind (wpAny_standAt (wpAny_bind (wpAny_mono (turn n s hI) (fun r s₁ h₁=>?_) fun _ _ h'=>h')))
 cases r with
 | none=>exact wpAny_pure h₁
 | some v =>
   refine wpAny_bind (wpAny_mono h₁ (fun _ s₁' h₁'=>?_) fun _ _ h'=>h')
   refine wpAny_bind (wpAny_mono h₁' (fun _ s₂ h₂=>wpAny_bind (wpAny_mono h₂ (fun ok s₃ h₃=>?_) fun _ _ h'=>h')) fun _ _ h'=>h')
   cases ok with
   | false=>exact wpAny_pure ⟨rfl,h₃⟩
   | true =>
     exact wpAny_bind (wpAny_bind (wpAny_mono h₃ (fun x s₄ h₄=>wpAny_bind (wpAny_mono h₄ (fun _ s₅ h₅=>wpAny_pure (wpAny_pure ⟨rfl,h₅⟩)) fun _ _ h'=>h')) fun _ _ h'=>h'))
end
def blk (X:Cx) (N:List Str) (scope:Scope) (cl:List (Str×Addr)) (C:Addr) (s:Shared) (H:Hp) (fp:List Addr):Cx :=
 { X with N:=N,s₀:=s,H₀:=H,env:=compEnvC scope cl C X.env,outer:=X.stack,ex:=fp,fn:=fun _=>false,pn:=[],xe:=fun _ _=>False }
def PTs (X:Cx) (ifs:List Expr) (t:TT):Prop :=
 ∀(pins:List (Addr×Obj)) (s:Shared) (σ:St) (H:Hp) (Q:Bool→Hp→Prop),Inv X pins σ H s→t σ H Q →
   wpAny (model X.prog X.w) X.A (forIn ifs true fun c r=>if r=true then do let ok ←isTrue c X.env (eval c X.env);pure (ForInStep.yield ok) else pure (ForInStep.yield r)) (TP X pins σ Q) X.xe s
def quE:TT:=fun _ H Q=>Q true H
def qaF {X:Cx}:PTs X [] quE:=fun _ _ _ H _ I h=>wpAny_tests_nil ⟨H,I,h⟩
def qfj {X:Cx} {c:Expr} {t:TT} (h:PT X c t):PTs X [c] t:=fun pins s σ H Q I hw=>wpAny_tests_one (h pins s σ H Q I hw)
def qbT (nt:Nat) (caps:List Nat) (σ:St):St:=List.replicate nt none++caps.map fun j=>(σ[j]?).join
def qlR (nt:Nat) (g:TG):Prop:=∀(v:V) (cs:St) (H:Hp) (Q:St→Hp→Prop),g v (List.replicate nt none++cs) H Q →
 g v (List.replicate nt none++cs) H fun σ' H'=>(∀(j:Nat) (u:V),(List.replicate nt none++cs)[j]?=some (some u)→σ'[j]?=some (some u))∧Q σ' H'
def qaE:qlR 1 (qhp 0):=by
 intro v cs H Q h
 refine ⟨fun j u e=>?_,h⟩
 cases j with
 | zero=>simp at e
 | succ j=>simpa using e
def qgY (nt:Nat) (caps:List Nat) (wi:TI) (g:TG) (tt:TT) (te:TE):TE:=fun σ H Q=>wi σ H fun J H1 =>
 ∃W:Nat→Nat→List V→Hp→Prop,(∃m,W 0 m [] H1)∧∀i m ys H2,W i m ys H2 →
   (J.stop i H2∧ys.length≤sizeLine∧∀p,H2 p=none→Q (.ref p) (upd H2 p (.lst ys))) ∨
   (J.go i H2∧ys.length<sizeLine∧∀x H3,J.yld i H2 x H3→g x (qbT nt caps σ) H3 fun σ4 H4=>tt σ4 H4 fun b H5 =>
     if b=true then te σ4 H5 fun y H6=>∃m',m'<m∧W (i+1) m' (ys++[y]) H6 else ∃m',m'<m∧W (i+1) m' ys H5)
structure qjk (X:Cx) (N:List Str) (nt:Nat) (caps:List Nat) (scope:Scope):Prop where
 cell:∀y∈scope.names,y.2 ≠ .cell
 kind:scope.kind = .function
 names:∀x∈scope.names,x.2 = .local→scope.names.lookup x.1=some .local
 free:∀n,(n,NameKind.free)∈scope.names→X.env.kindOf n=some .cell∨X.env.kindOf n=some .free
 cap:∀(j i:Nat),caps[j]?=some i→∃x,X.N[i]?=some x∧N[nt+j]?=some x∧(x,NameKind.free)∈scope.names∧scope.names.lookup x=some .free
 len:N.length=nt+caps.length
def qcK {α:Type} (f:Str×α→Str×α) (hf:∀p,(f p).1=p.1):∀(l:List (Str×α)) (x:Str),(l.map f).lookup x=(l.lookup x).map fun k=>(f (x,k)).2
 | [],_=>rfl
 | (n,k)::r,x=>by
   have ih:=qcK f hf r x
   have e:f (n,k)=(n,(f (n,k)).2):=Prod.ext (hf (n,k)) rfl
   rw [ycf,e,yfu,yfu]
   split
   · rename_i h
     have:x=n:=by simpa using h
     subst this
     rfl
   · exact ih
def qgj {α:Type}:∀{l:List (Str×α)} {x:Str} {k:α},l.lookup x=some k→(x,k)∈l
 | [],_,_,h=>by cases h
 | (n,q)::r,x,k,h=>by
   rw [yfu] at h
   split at h
   · rename_i e
     have:x=n:=by simpa using e
     subst this
     cases h
     exact ybe
   · exact ybh _ (qgj h)
def qew {scope:Scope} {env:Env} {x:Str} (hc:∀y∈scope.names,y.2 ≠ .cell) {k:NameKind} (h:(relabel scope env).names.lookup x=some k) (hk:k = .cell∨k = .free):(x,NameKind.free)∈scope.names:=by
 unfold relabel at h
 dsimp only at h
 rw [qcK _ (fun p=>by obtain ⟨n,k⟩:=p;dsimp only;split<;>rfl)] at h
 cases hl:scope.names.lookup x with
 | none=>rw [hl] at h;cases h
 | some q =>
   rw [hl] at h
   have m:=qgj hl
   by_cases hq:q = .free
   · rw [←hq];exact m
   · exfalso
     have hb:(q==NameKind.free)=false:=by simpa using hq
     simp only [yfr,hb,yeu,yem,if_false,Option.some.injEq] at h
     rcases hk with z | z
     · exact hc _ m (h.trans z)
     · exact hq (h.trans z)
def qik {scope:Scope} {env:Env} {x:Str} (h:scope.names.lookup x=some .free):(relabel scope env).names.lookup x≠some .local:=by
 intro q
 unfold relabel at q
 dsimp only at q
 rw [qcK _ (fun p=>by obtain ⟨n,k⟩:=p;dsimp only;split<;>rfl),h] at q
 dsimp only [Option.map] at q
 split at q<;>cases q
def qlK (sc:Scope) (NX N:List Str) (nt:Nat) (caps:List Nat) (scope:Scope):Bool :=
 scope.names.all (fun y=>!(y.2 == .cell))&&scope.kind == .function&&scope.names.all (fun y=>!(y.2 == .local)||scope.names.lookup y.1==some .local)
 && scope.names.all (fun y=>!(y.2 == .free)||sc.names.lookup y.1==some .cell||sc.names.lookup y.1==some .free)
 && (List.range caps.length).all (fun j=>match NX[caps.getD j 0]? with
   | some x=>N[nt+j]?==some x&&scope.names.any (fun y=>y.1==x&&y.2 == .free)&&scope.names.lookup x==some .free
   | none=>false)
 && N.length==nt+caps.length
def qaC {X:Cx} {N:List Str} {nt:Nat} {caps:List Nat} {scope:Scope} (h:qlK X.env.scope X.N N nt caps scope=true:=by rfl):qjk X N nt caps scope:=by
 unfold qlK at h
 simp only [yab,ybi,ycy,yaz,beq_iff_eq,beq_eq_false_iff_ne,ne_eq] at h
 obtain ⟨⟨⟨⟨⟨h1,h2⟩,h3⟩,h4⟩,h5⟩,h6⟩:=h
 refine ⟨fun y hy=>h1 y hy,h2,fun y hy e=>(h3 y hy).resolve_left fun z=>z e,fun n hn=>?_,fun j i e=>?_,h6⟩
 · rcases h4 (n,.free) hn with (z | z) | z
   · exact absurd rfl z
   · exact .inl z
   · exact .inr z
 · obtain ⟨hj,e'⟩:=ycl.mp e
   have q:=h5 j (ybk.mpr hj)
   have eg:caps.getD j 0=i:=by rw [yci,e];rfl
   rw [eg] at q
   cases hx:X.N[i]? with
   | none=>rw [hx] at q;cases q
   | some x =>
     rw [hx] at q
     simp only [yab,beq_iff_eq,ybm] at q
     obtain ⟨⟨q1,y,hy,e1,e2⟩,q3⟩:=q
     refine ⟨x,rfl,q1,?_,q3⟩
     obtain ⟨n,k⟩:=y
     cases e1;cases e2
     exact hy
section
variable {X:Cx} {tg iter elt:Expr} {ifs:List Expr} {scope:Scope} {pos:Pos} {N:List Str} {nt:Nat} {caps:List Nat} {wi:TI} {g:TG} {tt:TT} {te:TE} {cl:List (Str×Addr)}
def qjD {pins:List (Addr×Obj)} {σ:St} {H:Hp} {s:Shared} {it:Addr} {fp:List Addr} {tn:Nat→Heap→Prop} {J:It} {RR:Value→Addr→Result→Shared→Prop} {E:Value→Shared→Prop}
   (ok:qjk X N nt caps scope) (hc:X.calm=true) (h1:∀n c,cl.lookup n=some c→X.env.cells.lookup n=some c) (h2:∀n,(n,NameKind.free)∈scope.names→∃c,cl.lookup n=some c)
   (hg:∀cl C s H fp,PG (blk X N scope cl C s H fp) tg g) (hgk:qlR nt g) (ht:∀cl C s H fp,PTs (blk X N scope cl C s H fp) ifs tt) (he:∀cl C s H fp,PE (blk X N scope cl C s H fp) elt te)
   (I:Inv X pins σ H s) (T:qnh X.prog X.w X.K tg J fp it tn) (st:tn 0 s.heap) (hf:∀b∈fp,qj4 X pins H b)
   (W:Nat→Nat→List V→Hp→Prop) (Z:List V→Hp→Prop) (m0:Nat) (w0:W 0 m0 [] H)
   (turn:∀i m ys H2,W i m ys H2→(J.stop i H2∧Z ys H2) ∨
     (J.go i H2∧ys.length<sizeLine∧∀x H3,J.yld i H2 x H3→g x (qbT nt caps σ) H3 fun σ4 H4=>tt σ4 H4 fun b H5 =>
       if b=true then te σ4 H5 fun y H6=>∃m',m'<m∧W (i+1) m' (ys++[y]) H6 else ∃m',m'<m∧W (i+1) m' ys H5))
   (hRR:∀(C:Addr) (s':Shared) (ys:List V) (its:List Value) (n:Nat) (H':Hp),s.heap.objs.size<C→qaV ys its→Inv (blk X N scope cl C s H fp) [] (qbT nt caps σ) H' s' →
     s'.heap.get? s.heap.objs.size=some { cls := .type "list",data := .seq its.toArray n }→H' s.heap.objs.size=none→Z ys H'→RR (.ref s.heap.objs.size) C (.ok .next) s') :
   wpAny (model X.prog X.w) X.A (newList []) (fun acc s₃=>wpAny (model X.prog X.w) X.A (newFunctionEnv scope X.env.globals cl [] X.env.qual none .none (some X.env)) (fun cenv s₄ =>
     codeAny (model X.prog X.w) X.A (.compStart (.ListComp elt [⟨tg,iter,ifs,0⟩] scope pos) 0 (.ref it) acc { cenv with scope:=relabel scope X.env }) (RR acc cenv.locals) s₄) E s₃) E s:=by
 refine wpAny_newObj_type (wpAny_newFunctionEnv ok.cell (by intro y hy;simp at hy) (fun h₁ hns₁ hsb₁=>?_) ok.kind)
 dsimp only at hns₁ hsb₁ ⊢
 generalize hG:s.heap.push { cls := .type "list",dict:=none,data := .seq ([]:List Value).toArray }=G at hns₁ hsb₁ ⊢
 have hC:G.objs.size=s.heap.objs.size+1:=by rw [←hG,ydw]
 have hDC:s.heap.objs.size≠G.objs.size:=by rw [hC];exact ydx (ycx _)
 have hlt:s.heap.objs.size<G.objs.size:=by rw [hC];exact ycx _
 have old:∀b o,s.heap.get? b=some o→h₁.get? b=some o:=fun b o e =>
   hsb₁.extBut b o (ydx (ybo (ydv e) hlt)) (ydu _ (hG▸ydu _ e))
 have hacc:h₁.get? s.heap.objs.size=some { cls := .type "list",data := .seq ([]:List Value).toArray 0 }:=hsb₁.extBut _ _ hDC (ydu _ (hG▸ydt _ rfl))
 have fpD:∀b∈fp,b<s.heap.objs.size:=fun b hb=>by
   obtain ⟨o,e,_⟩:=T.obj _ _ st b hb
   exact ydv e
 have celt:∀n c,cl.lookup n=some c→c<s.heap.objs.size:=fun n c e=>by
   obtain ⟨v,q⟩:=I.cell n c (h1 n c e)
   exact q.lt
 have YOk:(blk X N scope cl G.objs.size s H fp).Ok:=by
   refine ⟨I.ok.mod,ok.kind,I.ok.glob,I.ok.blt,ydb hlt,fun x y c e e'=>I.ok.inj x y c (h1 x c e) (h1 y c e'),fun x hx=>?_,fun x c hx _=>(nomatch hx),I.ok.hd,I.ok.frames,.inl rfl,
     fun b hb=>⟨ydx (ybo (fpD b hb) hlt),fun x c e z=>?_⟩,fun b o e=>I.bs b o e,ydc I.ok.bsz I.sz,fun b o e hb=>?_,fun b hb hz=>?_,I.stack,I.stkFree⟩
   · rcases hx with hx | hx
     · exact h2 x (qew ok.cell hx (.inl rfl))
     · exact h2 x (qew ok.cell hx (.inr rfl))
   · exact (hf b hb).2.2.2.2.1 x c (h1 x c e) z
   · rcases (hf b hb).2.2.2.1 with z | z
     · exact I.ok.noex b o e z
     · exact absurd (yaf (ydv e) (ydc I.ok.bsz z)) (yen _)
   · rcases ybg.mp (I.stkSub b hz) with z | z
     · exact (hf b hb).2.1 z
     · exact (hf b hb).2.2.1 z
 have lenb:(qbT nt caps σ).length=N.length:=by rw [ok.len];simp [qbT]
 have IY:Inv (blk X N scope cl G.objs.size s H fp) [] (qbT nt caps σ) H { s with heap:=h₁,toks:=s.toks+([]:List (Str×Value)).length }:=by
   refine ⟨YOk,rfl,I.bare,Un.kept old,⟨_,hns₁,fun i x v e1 e2 e3=>?_⟩,fun x c e=>?_,I.hok.fresh (ydb hlt),fun x c e=>I.freeC x c (h1 x c e),fun p hp=>(nomatch hp),I.hok.kept old,lenb⟩
   · have hi:nt≤i:=by
       rcases yah i nt with z | z
       · exfalso
         unfold qbT at e2
         rw [yfe (by simpa using z),yfd] at e2
         split at e2<;>cases e2
       · exact z
     unfold qbT at e2
     rw [yfc (by simpa using hi),yff,yco] at e2
     cases ej:caps[i-nt]? with
     | none=>rw [ej] at e2;cases e2
     | some j =>
       rw [ej] at e2
       have e2':(σ[j]?).join=some v:=by simpa using e2
       have e2'':σ[j]?=some (some v):=by
         cases q:σ[j]? with
         | none=>rw [q] at e2';cases e2'
         | some z=>rw [q] at e2';simp at e2';rw [e2']
       obtain ⟨y,y1,y2,y3,y4⟩:=ok.cap _ _ ej
       have:nt+(i-nt)=i:=by omega
       rw [this] at y2
       have e1':N[i]?=some x:=e1
       rw [e1'] at y2
       cases y2
       obtain ⟨m,hn,hl⟩:=I.loc
       have kx:=ok.free x y3
       have vx:Vis X.env.scope x:=by
         rcases kx with z | z
         · exact .inr (.inl z)
         · exact .inr (.inr z)
       obtain ⟨u,r,l⟩:=hl j x v y1 e2'' vx
       refine ⟨u,r,.inr ⟨?_,?_⟩⟩
       · rcases e3 with z | z | z
         · exact absurd z (qik y4)
         · exact .inl z
         · exact .inr z
       · obtain ⟨c,hcl⟩:=h2 x y3
         refine ⟨c,hcl,?_⟩
         rcases l with ⟨k,_⟩ | ⟨_,c',hc',o,ho,hd⟩
         · rcases kx with z | z<;>(rw [z] at k;cases k)
         · have:c=c':=Option.some.inj ((h1 x c hcl).symm.trans hc')
           subst this
           exact ⟨o,old c o ho,hd⟩
   · obtain ⟨v,o,ho,hd⟩:=I.cell x c (h1 x c e)
     exact ⟨v,o,old c o ho,hd⟩
 -- the loop
 have stat:∀{pn:List (Addr×Obj)} {H':Hp},(∀b∈fp,H' b=none)→(∀p∈pn,s.heap.objs.size≤p.1)→∀b∈fp,qj4 (blk X N scope cl G.objs.size s H fp) pn H' b:=fun {pn H'} hn hpn b hb =>
   ⟨hn b hb,ydx (ybo (fpD b hb) hlt),fun hz=>(YOk.exfs b hb hz).elim,.inl hb,fun x c e z=>(hf b hb).2.2.2.2.1 x c (h1 x c e) z,fun p hp z=>by
     have hp':p∈pn:=by simpa [blk] using hp
     have:=hpn p hp'
     rw [z] at this
     exact absurd (yaf (fpD b hb) this) (yen _)⟩
 have hDf:s.heap.objs.size∉fp:=fun hm=>yen _ (fpD _ hm)
 have hDs:s.heap.objs.size∉frs X.stack:=fun hm=>by
   rcases ybg.mp (I.stkSub _ hm) with z | z
   · exact absurd I.lt (by rw [←z];exact yen _)
   · exact I.nofs (yba _) z
 have loop:∀s₃:Shared,s₃={ s with heap:=h₁,toks:=s.toks+([]:List (Str×Value)).length } →
     codeAny (model X.prog X.w) X.A (.compLoop (.ListComp elt [⟨tg,iter,ifs,0⟩] scope pos) 0 (.ref it) (.ref s.heap.objs.size) (compEnvC scope cl G.objs.size X.env)) (RR (.ref s.heap.objs.size) G.objs.size) s₃:=by
   rintro s₃ rfl
   refine qhN (fun n s'=>∃i ys its k H',Inv (blk X N scope cl G.objs.size s H fp) [] (qbT nt caps σ) H' s'∧tn i s'.heap∧(∀b∈fp,H' b=none)∧qaV ys its ∧
     s'.heap.get? s.heap.objs.size=some { cls := .type "list",data := .seq its.toArray k }∧H' s.heap.objs.size=none∧ys.length≤sizeLine∧W i n ys H') ?_ m0
     ⟨0,[],[],0,H,IY,T.keep _ _ _ st fun b hb o e=>old b o e,fun b hb=>(hf b hb).1,.nil,hacc,I.hok.fresh (yba _),ybz _,w0⟩
   rintro n s3 ⟨i,ys,its,k,H3,I3,st3,fr3,v3,a3,n3,z3,w3⟩
   have I3p:Inv (blk X N scope cl G.objs.size s H fp) [(s.heap.objs.size,{ cls := .type "list",data := .seq its.toArray k })] (qbT nt caps σ) H3 s3:=I3.pins_of fun p hp=>by
     have e:p=(s.heap.objs.size,{ cls := .type "list",data := .seq its.toArray k }):=by simpa using hp
     subst e
     exact ⟨a3,n3,hDC,hDs,fun v z=>by cases z⟩
   have pn3:∀p∈[(s.heap.objs.size,({ cls := .type "list",data := .seq its.toArray k }:Obj))],s.heap.objs.size≤p.1:=fun p hp=>by
     have e:p=(s.heap.objs.size,{ cls := .type "list",data := .seq its.toArray k }):=by simpa using hp
     subst e
     exact yba _
   rcases turn i n ys H3 w3 with ⟨stop,zz⟩ | ⟨go,hlen,step⟩
   · refine thn (T.done (blk X N scope cl G.objs.size s H fp) rfl rfl rfl hc i _ s3 _ H3 _ I3p (stat fr3 pn3) st3 stop) fun r s4 ⟨hr,I4⟩=>?_
     subst hr
     have a4:=I4.pin (s.heap.objs.size,{ cls := .type "list",data := .seq its.toArray k }) (yev _ (by simp))
     exact hRR _ s4 ys its k H3 hlt v3 (I4.pins_of fun _ hp=>nomatch hp) a4.1 n3 zz
   · refine thn (T.item (blk X N scope cl G.objs.size s H fp) rfl rfl rfl hc i _ s3 _ H3 _ I3p (stat fr3 pn3) st3 go) fun r s4 ⟨u,hr,h4⟩=>?_
     subst hr
     refine thn h4 fun _ s5 ⟨x,H5,I5,r5,y5,st5,fr5⟩=>?_
     have I5':=I5.pinned (stat fr5 pn3) (T.obj _ _ st5)
     refine thn (hg _ _ _ _ _ _ s5 _ H5 x u _ I5' r5 (hgk _ _ _ _ (step x H5 y5))) fun _ s6 ⟨σ6,H6,I6,kp6,q6⟩=>?_
     refine thn (ht _ _ _ _ _ _ s6 σ6 H6 _ I6 q6) fun b s7 ⟨H7,I7,q7⟩=>?_
     have back:∀{H8:Hp} {s8:Shared},Inv (blk X N scope cl G.objs.size s H fp) ([(s.heap.objs.size,({ cls := .type "list",data := .seq its.toArray k }:Obj))]++qio fp s5.heap) σ6 H8 s8 →
         Inv (blk X N scope cl G.objs.size s H fp) [] (qbT nt caps σ) H8 s8∧tn (i+1) s8.heap∧(∀b∈fp,H8 b=none)∧s8.heap.get? s.heap.objs.size=some { cls := .type "list",data := .seq its.toArray k }∧H8 s.heap.objs.size=none:=fun {H8 s8} I8=>by
       have a8:=I8.pin (s.heap.objs.size,{ cls := .type "list",data := .seq its.toArray k }) (yev _ (yav _ (by simp)))
       refine ⟨(I8.pins_of (pins':=[]) fun _ hp=>absurd hp (by simp)).weak (by rw [lenb,I8.len];rfl) kp6,T.keep _ _ _ st5 fun b hb o e=>(I8.pin (b,o) (yev _ (yev _ (qcZ hb e)))).1,fun b hb=>?_,a8.1,a8.2.1⟩
       obtain ⟨o,e,d⟩:=T.obj _ _ st5 b hb
       exact (I8.pin (b,o) (yev _ (yev _ (qcZ hb e)))).2.1
     cases b with
     | false =>
       rw [if_neg (by intro z;cases z)] at q7 ⊢
       obtain ⟨m',hm,w7⟩:=q7
       obtain ⟨b1,b2,b3,b4,b5⟩:=back I7
       exact ⟨m',hm,i+1,ys,its,k,H7,b1,b2,b3,v3,b4,b5,z3,w7⟩
     | true =>
       rw [if_pos rfl] at q7 ⊢
       refine thn (he _ _ _ _ _ _ s7 σ6 H7 _ I7 q7) fun u8 s8 ⟨y,H8,I8,r8,m',hm,w8⟩=>?_
       obtain ⟨b1,b2,b3,b4,b5⟩:=back I8
       have hl:=v3.length
       refine call_meets F.slot_list_append ⟨_,b4,rfl⟩ F.entry_list_append (F.args_list_append_2 _ _) (PySem.list_append s.heap.objs.size its.toArray k u8 (by rw [yfh];omega)) ⟨b4,?_⟩
       have q:=PySem.IsL.update (show PySem.IsL s8.heap s.heap.objs.size its.toArray k from b4) (fun x=>x.push u8)
       have eq:its.toArray.push u8=(its++[u8]).toArray:=by simp
       rw [eq] at q
       have keep:∀b' o,b'≠s.heap.objs.size→s8.heap.get? b'=some o→(s8.heap.update s.heap.objs.size (Obj.mapSeq fun x=>x.push u8)).get? b'=some o:=fun b' o hb hu =>
         (yeg s8.heap (Obj.mapSeq fun x=>x.push u8) (Ne.symm hb)).trans hu
       refine ⟨m',hm,i+1,ys++[y],its++[u8],_,H8,b1.turned (t':=s8.toks) keep b5 hDC (.inr (yba _)) (fun x c e z=>?_) (fun p hp=>by simp [blk] at hp),T.keep _ _ _ b2 fun b hb o e=>keep b o (fun z=>hDf (z▸hb)) e,b3,
         v3.append (.cons r8 .nil),q,b5,?_,w8⟩
       · exact absurd (celt x c e) (by rw [z];exact yen _)
       · rw [ydq,yfn];omega
 exact codeAny_compStart_list (loop _ rfl) (T.self _ 0 _ _ _ (T.keep _ _ _ st fun b hb o e=>old b o e) (loop _ rfl))
def qh7 {pins:List (Addr×Obj)} {σ:St} {H H':Hp} {s s':Shared} {fp:List Addr} {C:Addr} {ys:List V} {its:List Value} {n:Nat} {σb:St} {h':Heap}
   (I:Inv X pins σ H s) (hf:∀b∈fp,qj4 X pins H b) (hC:s.heap.objs.size<C) (v:qaV ys its) (hz:ys.length≤sizeLine) (IY:Inv (blk X N scope cl C s H fp) [] σb H' s')
   (e:s'.heap.get? s.heap.objs.size=some { cls := .type "list",data := .seq its.toArray n }) (en:H' s.heap.objs.size=none) (hs:∀b o,b≠C→s'.heap.get? b=some o→h'.get? b=some o) :
   Inv X pins σ (upd H' s.heap.objs.size (.lst ys)) { s' with heap:=h' }:=by
 have hCn:H' C=none:=IY.free
 have hok:HOk X.prog X.w H' h':=fun b u q=>by
   have nC:∀c u',H' c=some u'→c≠C:=fun c u' q' z=>by rw [z,hCn] at q';cases q'
   refine (IY.hok b u q).stay (fun c w' hc q'=>hs c w' ?_ q') (fun _ q'=>q') fun _ _ q'=>q'
   rcases hc with z | z
   · rw [z];exact nC b u q
   · exact nC c _ z
 have lt:∀b o,s.heap.get? b=some o→b≠C:=fun b o q=>ydx (ybo (ydv q) hC)
 have u:Un (frs X.stack) fp H H' s.heap h':=⟨fun b o q nn hb hx=>hs b o (lt b o q) (IY.base.keep b o q nn hb hx),fun b o q nn hb hx=>by
     obtain ⟨sl,q'⟩:=IY.base.slot b o q nn hb hx
     exact ⟨sl,hs b _ (lt b o q) q'⟩,IY.base.free,fun b o q hx=>by
     obtain ⟨o',q'⟩:=IY.base.there b o q hx
     exact ⟨o',hs b o' (lt b o q) q'⟩,IY.base.tups,IY.base.frzs,IY.base.tbls⟩
 have I1:Inv X pins σ H' { s' with heap:=h' }:=I.call' (s':={ s' with heap:=h' }) (ch:=fp) IY.os u hok IY.bare fun b hb=>⟨(hf b hb).2.2.2.1,(hf b hb).2.1,(hf b hb).2.2.2.2.1,(hf b hb).2.2.2.2.2⟩
 have hD:h'.get? s.heap.objs.size=some { cls := .type "list",data := .seq its.toArray n }:=hs _ _ (ydx hC) e
 exact I1.track (by
   have f:=I.fpOk (H':=H') (b:=s.heap.objs.size) (yba _) en
   exact f) ⟨hz,its,n,v,hD⟩
def qaG (ok:qjk X N nt caps scope) (hc:X.calm=true) (hi:PI X tg iter wi)
   (hg:∀cl C s H fp,PG (blk X N scope cl C s H fp) tg g) (hgk:qlR nt g) (ht:∀cl C s H fp,PTs (blk X N scope cl C s H fp) ifs tt) (he:∀cl C s H fp,PE (blk X N scope cl C s H fp) elt te)
   (hs:∀x,foldedSetIterable iter X.env x=pure x:=by intro _;rfl):PE X (.ListComp elt [⟨tg,iter,ifs,0⟩] scope pos) (qgY nt caps wi g tt te):=by
 intro pins s σ H Q I h
 obtain ⟨cl,hcl,h1,h2⟩:=qeK (scope:=scope) (env:=X.env) fun n hn=>I.ok.has n (ok.free n hn)
 rw [eval_ListComp]
 refine wpAny_comprehension_free (use:=none) rfl hs hcl ok.kind ok.names (thn (hi pins s σ H _ I h) fun xv s1 h1'=>thn h1' fun itv s2 h2'=>?_)
 obtain ⟨it,fp,tn,J,H2,e,I2,T,st2,f2,W,⟨m0,w0⟩,turn⟩:=h2'
 subst e
 refine qjD (RR:=fun acc C=>compPost (model X.prog X.w) X.A X.xe none (EP X pins σ Q) acc C) ok hc h1 h2 hg hgk ht he I2 T st2 f2 W (fun ys H'=>ys.length≤sizeLine∧∀p,H' p=none→Q (.ref p) (upd H' p (.lst ys))) m0 w0 turn ?_
 intro C s' ys its n H' hC v IY e en zz
 obtain ⟨m,hn,_⟩:=IY.loc
 exact ⟨m,hn,fun h' hs'=>⟨.ref s2.heap.objs.size,_,qh7 I2 f2 hC v zz.1 IY e en (fun b o hb q=>hs'.extBut b o hb q),rfl,zz.2 _ en⟩⟩
def qcN {i:Nat} {y:Str} {py spos:Pos} (hN:X.N.Nodup) (hyi:X.N[i]?=some y) (hy:X.env.scope.names.lookup y=some .local) (hsw:swapsWith (.ListComp elt [⟨tg,iter,ifs,0⟩] scope pos) (some (.Name y py)) spos.line X.env=pure true)
   (ok:qjk X N nt caps scope) (hc:X.calm=true) (hi:PI X tg iter wi)
   (hg:∀cl C s H fp,PG (blk X N scope cl C s H fp) tg g) (hgk:qlR nt g) (ht:∀cl C s H fp,PTs (blk X N scope cl C s H fp) ifs tt) (he:∀cl C s H fp,PE (blk X N scope cl C s H fp) elt te)
   (hs:∀x,foldedSetIterable iter X.env x=pure x:=by intro _;rfl):PS X (.Assign [.Name y py] (.ListComp elt [⟨tg,iter,ifs,0⟩] scope pos) spos) (qru (qgY nt caps wi g tt te) (qhp i)):=by
 intro pins s σ H D I h
 obtain ⟨cl,hcl,h1,h2⟩:=qeK (scope:=scope) (env:=X.env) fun n hn=>I.ok.has n (ok.free n hn)
 rw [exec_Assign_Name_used _ _ _ _ hsw]
 refine wpAny_bind (wpAny_standAt (wpAny_bind ?_))
 show wpAny _ X.A (do let _ ←comprehension (.ListComp elt [⟨tg,iter,ifs,0⟩] scope pos) scope X.env _ (newList []) false (eval iter X.env) (some (assign (.Name y py) X.env))) _ _ s
 refine wpAny_bind (wpAny_mono (wpAny_comprehension_free (use:=some (assign (.Name y py) X.env)) (Q:=fun _ s'=>SP X pins D .next s') rfl hs hcl ok.kind ok.names
   (thn (hi pins s σ H _ I h) fun xv s1 h1'=>thn h1' fun itv s2 h2'=>?_)) (fun _ s' hq=>wpAny_pure (wpAny_pure hq)) fun _ _ e=>e)
 obtain ⟨it,fp,tn,J,H2,e,I2,T,st2,f2,W,⟨m0,w0⟩,turn⟩:=h2'
 subst e
 refine qjD (RR:=fun acc C=>compPost (model X.prog X.w) X.A X.xe (some (assign (.Name y py) X.env)) (fun _ s'=>SP X pins D .next s') acc C) ok hc h1 h2 hg hgk ht he I2 T st2 f2 W
   (fun ys H'=>ys.length≤sizeLine∧∀p,H' p=none→qhp i (.ref p) σ (upd H' p (.lst ys)) D.nx) m0 w0 turn ?_
 intro C s' ys its n H' hC v IY e en zz
 obtain ⟨m,hn,_⟩:=IY.loc
 have I3:Inv X pins σ (upd H' s2.heap.objs.size (.lst ys)) s':=qh7 (h':=s'.heap) I2 f2 hC v zz.1 IY e en fun b o hb q=>q
 obtain ⟨o,es,ep,ho,r⟩:=id hn
 have fC:qj4 X pins (upd H' s2.heap.objs.size (.lst ys)) C:=by
   have f:=I2.fpOk (H':=H') (b:=C) (ydb hC) IY.free
   refine ⟨by rw [qay (Ne.symm (ydx hC))];exact IY.free,f.2⟩
 show wpAny (model X.prog X.w) X.A (assign (.Name y py) X.env (.ref s2.heap.objs.size)) (fun _ s''=>∃m,s''.heap.Ns C m∧∀h',Heap.SameBut C s''.heap h'→SP X pins D .next { s'' with heap:=h' }) X.xe s'
 have I3p:Inv X (pins++[(C,o)]) σ (upd H' s2.heap.objs.size (.lst ys)) s':=I3.pins_of fun p hp=>by
   rcases yaw.mp hp with z | z
   · exact I3.pin p (yev _ z)
   · have e:p=(C,o):=by simpa using z
     subst e
     exact ⟨ho,fC.1,fC.2.1,fC.2.2.1,fun v z=>by rw [r.1] at z;cases z⟩
 refine wpAny_assign_Name (qg7 I3p hN hyi (.inl hy) (v := .ref s2.heap.objs.size) rfl (fun s4 I4=>?_) (.inr hy))
 have a4:=I4.pin (C,o) (yev _ (yev _ (by simp)))
 refine ⟨m,⟨o,es,ep,a4.1,r⟩,fun h' hs'=>⟨_,_,?_,zz.2 _ en⟩⟩
 exact (I4.unpinned).turned (t':=s4.toks) (fun b o' hb q=>hs'.extBut b o' hb q) fC.1 fC.2.1 fC.2.2.2.1 fC.2.2.2.2.1 fC.2.2.2.2.2
end
end L2
namespace L2
open PySem PySem.Spec PyProof.Rows
structure Cal (P:Program) (w:World) (K:PySem.W.Frag) (mg:Str→Option Value) (base:Heap) (x:Str) (k:Nat) (ps:List Str) (sp:Sp) (f:Addr) (fd:FuncData):Prop where
 ok:qaQ P w K mg base CX0 k f fd ps sp
 mg:mg x=some (.ref f)
 kp:PySem.W.keepIn K (.ref f)=true
 bd:qdx K fd ps []
section
variable {X:Cx} {x:Str} {p pos:Pos} {e:Expr} {es:List Expr} {t:TA} {k j:Nat} {ps:List Str} {sp:Sp} {f:Addr} {fd:FuncData}
def qoW (C:Cal X.prog X.w X.K X.mg X.base x k ps sp f fd) (hr:qdB j X.A) (hj:k≤j) (hg:Gl X x) (ha:PA X (e::es) t) (hdb:(x==("__debug__" : Str))=false:=by decide)
 (he:starEach (e::es) X.env=(false,eval e X.env)::starEach es X.env:=by rfl) (hpl:(backTo pos (starEach es X.env)).any (·.1)=false:=by rfl) :
 PE X (.Call (.Name x p) (e::es) [] pos) (qnL sp [] E0 t):=qqJ C.ok (hr.mono hj) hg C.mg C.kp C.bd .nil qrh ha hdb he hpl
end
section
variable {X:Cx}
def qpL (i j:Int):Prop:=0<j∧j<2^200
def qpL.log {i j:Int} (h:qpL i j):j.natAbs.log2<9000:=by
 have h1:0<j:=h.1
 have h2:j<2^200:=h.2
 have h3:j.natAbs<2^200:=by omega
 have h4:j.natAbs≠0:=by omega
 have:=(Nat.log2_lt h4).mpr h3
 omega
def qn6:OpR X (binaryOp .FloorDiv) (rI qpL fun i j => .int (i/j)):=opI fun i j _ _ _ _ _ hc q=>by
 have h1:(0:Int)<j:=hc.1
 exact floordiv_int (by omega) (by rw [yex i (by omega)];exact q) (.inl (PyProof.noPylong_of_log2 hc.log))
def qnb (H:Hp):V→Option String
 | .non=>some "NoneType"
 | .bl _=>some "bool"
 | .int _=>some "int"
 | .str _=>some "str"
 | .ref a=>match H a with
   | some (.lst _)=>some "list"
   | some (.frz _ (.lst _))=>some "list"
   | some (.tup _)=>some "tuple"
   | some (.dK _)=>some "dict"
   | _=>none
 | _=>none
def qnj (t c:String):Bool:=t==c||(t == "bool" && c == "int")
def qqg (K:PySem.W.Frag):∀t∈["NoneType", "bool", "int", "str", "list", "tuple", "dict"],∀c∈["int", "bool", "list", "tuple", "str"],PySem.W.kitOne K (.type t) (.type c)=some (qnj t c):=by
 intro t ht c hc
 simp only [ybg,ydz,or_false] at ht hc
 rcases ht with rfl | rfl | rfl | rfl | rfl | rfl | rfl<;>rcases hc with rfl | rfl | rfl | rfl | rfl<;>rfl
def qqP {K:PySem.W.Frag} {H:Hp} {x:V} {t:String} (h:qnb H x=some t):qko K H x (.type t)∧t∈["NoneType", "bool", "int", "str", "list", "tuple", "dict"]:=by
 cases x with
 | non=>cases h;exact ⟨.non,by decide⟩
 | bl b=>cases h;exact ⟨.bl b,by decide⟩
 | int i=>cases h;exact ⟨.int i,by decide⟩
 | str z=>cases h;exact ⟨.str z,by decide⟩
 | ref a =>
   unfold qnb at h
   dsimp only at h
   split at h
   · rename_i e;cases h;exact ⟨.lst e,by decide⟩
   · rename_i e;cases h;exact ⟨.frz e,by decide⟩
   · rename_i e;cases h;exact ⟨.tup e,by decide⟩
   · rename_i e;cases h;exact ⟨.dK e,by decide⟩
   · cases h
 | _=>cases h
def qlk:List V→Hp→VK→Prop:=fun xs H Q=>∃x c t,xs=[x,.ty c]∧qnb H x=some t∧c∈["int", "bool", "list", "tuple", "str"]∧Q (.bl (qnj t c)) H
def qbp:qb7 X (.builtin "isinstance") qlk:=by
 intro pins s σ H xs us Q I r h
 obtain ⟨x,c,t,rfl,hk,hc,q⟩:=h
 obtain ⟨u,w',rfl,rx,ry⟩:=qlI r
 cases (show w'=Value.type c from ry)
 obtain ⟨ty,ht⟩:=qqP (K:=X.K) hk
 exact qkR I rx ty (qqg X.K t ht c hc) fun tk=>⟨.bl _,H,I.tok _,rfl,q⟩
def qgb (xs ys:List V):Bool:=xs.length==ys.length&&(List.range xs.length).all fun j=>eqV (xs.getD j .non) (ys.getD j .non)
def qmu (ns ms:List Int):qgb (ns.map V.int) (ms.map V.int)=decide (ns=ms):=by
 unfold qgb
 rw [ycd,ycd]
 by_cases hl:ns.length=ms.length
 · rw [show (ns.length==ms.length)=true by simpa using hl,yfw]
   rw [yay,ybi,decide_eq_true_eq]
   constructor
   · intro h
     refine yej hl fun i h1 h2=>?_
     have q:=h i (ybk.mpr h1)
     simpa [List.getD,h1,h2,eqV] using q
   · rintro rfl j hj
     have hj':=ybk.mp hj
     simp [List.getD,hj',eqV]
 · rw [show (ns.length==ms.length)=false by simpa using hl,yeu]
   exact (decide_eq_false fun e=>hl (by rw [e])).symm
def qrv (K:PySem.W.Frag):R2:=fun x y H Q=>∃a b xs ys,x = .ref a∧y = .ref b∧SqL K H a xs∧SqL K H b ys∧xs.all qbz=true∧ys.all qbz=true∧Q (.bl (qgb xs ys)) H
def qtm (K:PySem.W.Frag):R2:=fun x y H Q=>∃a b xs ys,x = .ref a∧y = .ref b∧SqL K H a xs∧SqL K H b ys∧xs.all qbz=true∧ys.all qbz=true∧Q (.bl (!qgb xs ys)) H
def qh2 {A:Around} {s:Shared} {xs ys:List V} {us ws:List Value} (rx:qaV xs us) (ry:qaV ys ws) (fx:xs.all qbz=true) (fy:ys.all qbz=true) (j:Nat) (h1:j<us.toArray.size) (h2:j<ws.toArray.size) :
   SeqAt.EqAt A s us.toArray[j] ws.toArray[j] (eqV (xs.getD j .non) (ys.getD j .non)):=by
 have l1:=rx.length
 have l2:=ry.length
 rw [yfh] at h1 h2
 have e1:xs[j]?=some (xs.getD j .non):=by rw [yci,ycj (by omega)];rfl
 have e2:ys[j]?=some (ys.getD j .non):=by rw [yci,ycj (by omega)];rfl
 obtain ⟨u,hu,ru⟩:=rx.get e1
 obtain ⟨v,hv,rv⟩:=ry.get e2
 have g1:us.toArray[j]=u:=by
   rw [yfx]
   exact Option.some.inj ((ycj h1).symm.trans hu)
 have g2:ws.toArray[j]=v:=by
   rw [yfx]
   exact Option.some.inj ((ycj h2).symm.trans hv)
 rw [g1,g2]
 exact qoV ru rv (ybi.mp fx _ (yck e1)) (ybi.mp fy _ (yck e2))
def qrX (hu:X.A.units<cLine):OpR X (compareOp .Eq) (qrv X.K):=by
 intro pins s σ H x y v u Q I rx ry h
 obtain ⟨a,b,xs,ys,rfl,rfl,ha,hb,fx,fy,q⟩:=h
 cases rx
 cases ry
 obtain ⟨us,r1,p1,z1⟩:=I.list ha
 obtain ⟨ws,r2,p2,z2⟩:=I.list hb
 have l1:=r1.length
 have l2:=r2.length
 by_cases hl:xs.length=ys.length
 · refine SeqAt.eq_listAt p1.isList p2.isList (by simp only [yfh];omega) hu (fun j h1 h2=>qh2 r1 r2 fx fy j h1 h2) ⟨.bl _,H,I,rfl,?_⟩
   have e:qgb xs ys=(List.range us.toArray.size).all fun j=>eqV (xs.getD j .non) (ys.getD j .non):=by
     unfold qgb
     rw [show (xs.length==ys.length)=true by simpa using hl,yfw,yfh,l1]
   rw [←e]
   exact q
 · refine SeqAt.eq_list_lengthsAt p1.isList p2.isList (by simp only [yfh,bne_iff_ne];omega) hu ⟨.bl _,H,I,rfl,?_⟩
   have e:qgb xs ys=false:=by
     unfold qgb
     rw [show (xs.length==ys.length)=false by simpa using hl,yeu]
   rw [←e]
   exact q
def qsY (hu:X.A.units<cLine):OpR X (compareOp .NotEq) (qtm X.K):=by
 intro pins s σ H x y v u Q I rx ry h
 obtain ⟨a,b,xs,ys,rfl,rfl,ha,hb,fx,fy,q⟩:=h
 cases rx
 cases ry
 obtain ⟨us,r1,p1,z1⟩:=I.list ha
 obtain ⟨ws,r2,p2,z2⟩:=I.list hb
 have l1:=r1.length
 have l2:=r2.length
 by_cases hl:xs.length=ys.length
 · refine SeqAt.RcNeAt.lists p1.isList p2.isList (by simp only [yfh];omega) hu (fun j h1 h2=>qh2 r1 r2 fx fy j h1 h2) X.prog X.w _ _ ⟨.bl _,H,I,rfl,?_⟩
   have e:qgb xs ys=(List.range us.toArray.size).all fun j=>eqV (xs.getD j .non) (ys.getD j .non):=by
     unfold qgb
     rw [show (xs.length==ys.length)=true by simpa using hl,yfw,yfh,l1]
   rw [←e]
   exact q
 · refine SeqAt.RcNeAt.lists_lengths p1.isList p2.isList (by simp only [yfh,bne_iff_ne];omega) hu X.prog X.w _ _ ⟨.bl _,H,I,rfl,?_⟩
   have e:qgb xs ys=false:=by
     unfold qgb
     rw [show (xs.length==ys.length)=false by simpa using hl,yeu]
   rw [e] at q
   exact q
def qqk (K:PySem.W.Frag):R2:=fun x y H Q=>∃l b xs zs,x = .ref l∧y = .ref b∧SqL K H l xs∧SqL K H b zs∧xs.length+zs.length≤sizeLine∧∀p,H p=none→Q (.ref p) (upd H p (.lst (xs++zs)))
def qqc:OpR X (binaryOp .Add) (qqk X.K):=by
 intro pins s σ H x y v u Q I rx ry h
 obtain ⟨l,b,xs,zs,rfl,rfl,hl,hb,hz,q⟩:=h
 cases rx
 cases ry
 obtain ⟨us,r1,p1,z1⟩:=I.list hl
 obtain ⟨ws,r2,p2,z2⟩:=I.list hb
 obtain ⟨⟨c1,d1,t1,s1⟩,n1,e1,ec1,ed1,et1⟩:=p1
 obtain ⟨⟨c2,d2,t2,s2⟩,n2,e2,ec2,ed2,et2⟩:=p2
 simp only at ec1 ed1 et1 ec2 ed2 et2
 subst ec1 ed1 et1 ec2 ed2 et2
 have l1:=r1.length
 have l2:=r2.length
 refine concat_meets ⟨_,e1,rfl⟩ ⟨_,e2,rfl⟩ noFill_list_add seq_list_add PySem.F.slot_list_add PySem.F.entry_list_add (PySem.F.args_list_add_2 _ _) (list_addW l b us.toArray ws.toArray n1 n2 none none s1 s2 (by simp only [yfh];omega)) ⟨e1,e2,?_⟩
 have ea:us.toArray++ws.toArray=(us++ws).toArray:=by simp
 rw [ea]
 exact ⟨.ref _,_,I.lnew (t':=s.toks) (r1.append r2) (by rw [ydq];omega),rfl,q _ I.fresh⟩
def qtW:V→V→Bool
 | .bl _,.bl _=>true
 | .non,.bl _=>true
 | .bl _,.non=>true
 | .non,.non=>true
 | .int _,.bl _=>true
 | .int _,.non=>true
 | .str _,.bl _=>true
 | .str _,.non=>true
 | .ref _,.bl _=>true
 | .ref _,.non=>true
 | _,_=>false
def qr6 {x y:V} {v u:Value} (rx:qbb x v) (ry:qbb y u) (h:qtW x y=true):plainIs v u=true∧(v==u)=decide (x=y):=by
 cases x<;>cases y<;>first
   | exact absurd (show false=true from h) yet
   | (cases rx;cases ry;exact ⟨rfl,rfl⟩)
   | (cases rx;cases ry;rename_i a b;cases a<;>cases b<;>exact ⟨rfl,rfl⟩)
   | (obtain ⟨t,rfl⟩:=rx;cases ry;exact ⟨rfl,rfl⟩)
def qgh:OpR X (compareOp .Is) (fun x y H Q=>qtW x y=true∧Q (.bl (decide (x=y))) H):=by
 intro pins s σ H x y v u Q I rx ry h
 obtain ⟨e1,e2⟩:=qr6 rx ry h.1
 exact wpAny_is_plain e1 ⟨.bl _,H,I,by rw [e2];rfl,h.2⟩
def qdK:OpR X (compareOp .IsNot) (fun x y H Q=>qtW x y=true∧Q (.bl (!decide (x=y))) H):=by
 intro pins s σ H x y v u Q I rx ry h
 obtain ⟨e1,e2⟩:=qr6 rx ry h.1
 exact wpAny_isNot_plain e1 ⟨.bl _,H,I,by rw [e2];rfl,h.2⟩
def qmN:MtR X "int.bit_length" (fun x vs H Q=>∃i,x = .int i∧vs=[]∧Q (.int (Builtin.Int.intBits i)) H):=by
 intro pins s σ H x vs v us Q I rx rv h
 obtain ⟨i,rfl,rfl,q⟩:=h
 obtain ⟨t,rfl⟩:=rx
 cases rv
 exact call_int_bit_length ⟨.int _,H,I.tok _,⟨_,rfl⟩,q⟩
def qcX {x:Str} {i:Int} {p:Pos} (h:∃t,X.mg x=some (.int i t)) (hg:Gl X x) (hd:(x==("__debug__" : Str))=false:=by decide):PE X (.Name x p) (tC (.int i)):=by
 obtain ⟨t,h⟩:=h
 exact qd8 hg h ⟨t,rfl⟩ hd
def qu9 {CX:CXT} {P:Program} {w:World} {K:PySem.W.Frag} {mg:Str→Option Value} {base:Heap} {N:List Str} {qual:Str} {scope:Scope} {f:Addr} {cd:Value} {A:Around} {outer:List Env} {s:Shared} {H:Hp} {E:XK} :
 (qqq CX P w K mg base N qual scope f cd A outer s H E).K=K:=rfl
def qcY {K:PySem.W.Frag} {H:Hp} {a:Addr} {xs:List V} (h:H a=some (.lst xs)):tyV K "list" (.ref a) H := .inl ⟨rfl,xs,SqL.of h⟩
def qqp {K:PySem.W.Frag} {H:Hp} {a:Addr} {xs:List V}:tyV K "list" (.ref a) (upd H a (.lst xs))↔True:=⟨fun _=>trivial,fun _=>qcY qaf⟩
def qrB {H:Hp} {a:Addr} {xs:List V} (h:H a=some (.lst xs)):qnb H (.ref a)=some "list" := by unfold qnb;dsimp only;rw [h]
def qar.upd {H H':Hp} {a:Addr} {o:HO} (e:qar H H') (h:H a=none):qar H (L2.upd H' a o):=fun b u q=>by
 rw [qay (fun z=>by rw [z,h] at q;cases q)]
 exact e b u q
def qar.new {H:Hp} {a:Addr} {o:HO} (h:H a=none):qar H (L2.upd H a o):=(qar.refl H).upd h
section
variable {K:PySem.W.Frag} {H:Hp} {Q:VK} {i j:Int} {a:Addr} {b c:Bool} {z z':Str} {y:V} {g:Int→Int→V}
def qqo:qqk K (.int i) y H Q↔False:=⟨fun ⟨_,_,_,_,e,_⟩=>(nomatch e),False.elim⟩
def qrR:qrv K (.int i) y H Q↔False:=⟨fun ⟨_,_,_,_,e,_⟩=>(nomatch e),False.elim⟩
def qrx:qrv K (.bl b) y H Q↔False:=⟨fun ⟨_,_,_,_,e,_⟩=>(nomatch e),False.elim⟩
def qsy:qrv K (.str z) y H Q↔False:=⟨fun ⟨_,_,_,_,e,_⟩=>(nomatch e),False.elim⟩
def qsV:qrv K .non y H Q↔False:=⟨fun ⟨_,_,_,_,e,_⟩=>(nomatch e),False.elim⟩
def qsc:qtm K (.int i) y H Q↔False:=⟨fun ⟨_,_,_,_,e,_⟩=>(nomatch e),False.elim⟩
def qso:qtm K (.bl b) y H Q↔False:=⟨fun ⟨_,_,_,_,e,_⟩=>(nomatch e),False.elim⟩
def qtc:qtm K (.str z) y H Q↔False:=⟨fun ⟨_,_,_,_,e,_⟩=>(nomatch e),False.elim⟩
def qsq:qtm K .non y H Q↔False:=⟨fun ⟨_,_,_,_,e,_⟩=>(nomatch e),False.elim⟩
def qtL:rEq (.ref a) y H Q↔False:=⟨fun ⟨e,_⟩=>by cases y<;>exact absurd (show false=true from e) yet,False.elim⟩
def que:rNe (.ref a) y H Q↔False:=⟨fun ⟨e,_⟩=>by cases y<;>exact absurd (show false=true from e) yet,False.elim⟩
def qt5:rEq (.int i) (.int j) H Q↔Q (.bl (decide (i=j))) H:=by unfold rEq;simp [show qoD (.int i) (.int j)=true from rfl]
def qtG:rNe (.int i) (.int j) H Q↔Q (.bl (!decide (i=j))) H:=by unfold rNe;simp [show qoD (.int i) (.int j)=true from rfl]
def qtB:rEq (.bl b) (.bl c) H Q↔Q (.bl (decide (b=c))) H:=by unfold rEq;simp [show qoD (.bl b) (.bl c)=true from rfl]
def qtV:rNe (.bl b) (.bl c) H Q↔Q (.bl (!decide (b=c))) H:=by unfold rNe;simp [show qoD (.bl b) (.bl c)=true from rfl]
def qtK:rEq (.str z) (.str z') H Q↔Q (.bl (decide (z=z'))) H:=by unfold rEq;simp [show qoD (.str z) (.str z')=true from rfl]
def qtM:rNe (.str z) (.str z') H Q↔Q (.bl (!decide (z=z'))) H:=by unfold rNe;simp [show qoD (.str z) (.str z')=true from rfl]
def qug:rI0 g (.ref a) y H Q↔False:=⟨fun ⟨_,_,e,_⟩=>(nomatch e),False.elim⟩
def qtO:rI0 g (.int i) (.int j) H Q↔Q (g i j) H:=⟨fun ⟨_,_,e,e',q⟩=>by cases e;cases e';exact q,fun q=>⟨i,j,rfl,rfl,q⟩⟩
def quP {C:Int→Int→Prop}:rI C g (.int i) (.int j) H Q↔C i j∧Q (g i j) H:=⟨fun ⟨_,_,e,e',q⟩=>by cases e;cases e';exact q,fun q=>⟨i,j,rfl,rfl,q⟩⟩
def qju {xs:List V}:qlA (.ref a) [y] (upd H a (.lst xs)) Q↔xs.length<sizeLine∧Q .non (upd H a (.lst (xs++[y]))):=by
 constructor
 · rintro ⟨l,ys,v,e1,e2,e3,e4,q⟩
   cases e1;cases e2
   rw [qaf] at e3
   cases e3
   rw [qfi] at q
   exact ⟨e4,q⟩
 · rintro ⟨e,q⟩
   exact ⟨a,xs,y,rfl,rfl,qaf,e,by rw [qfi];exact q⟩
def qa9 (h0:0≤j) (h1:j≤1000) (h2:-1000≤i) (h3:i≤1000):quC i j:=⟨h0,by omega,by omega⟩
end
def qc3 (J:It) (g:TG) (tb:TS) (D:qf2) (σ:St) (H:Hp):Prop:=∃W:Nat→Nat→St→Hp→Prop,(∃m,W 0 m σ H)∧∀i m σ H,W i m σ H →
 (J.stop i H∧D.nx σ H)∨(J.go i H∧∃N:St→Hp→Prop,(∀σ' H',N σ' H'→∃m',m'<m∧W (i+1) m' σ' H')∧∀x H',J.yld i H x H'→g x σ H' fun σ2 H2=>tb { D with nx:=N,ct:=N,bk:=D.nx } σ2 H2)
def qcx (J:It) (nt:Nat) (caps:List Nat) (g:TG) (tt:TT) (te:TE) (σ:St) (H:Hp) (Q:VK):Prop:=∃W:Nat→Nat→List V→Hp→Prop,(∃m,W 0 m [] H)∧∀i m ys H2,W i m ys H2 →
 (J.stop i H2∧ys.length≤sizeLine∧∀p,H2 p=none→Q (.ref p) (upd H2 p (.lst ys))) ∨
 (J.go i H2∧ys.length<sizeLine∧∀x H3,J.yld i H2 x H3→g x (qbT nt caps σ) H3 fun σ4 H4=>tt σ4 H4 fun b H5 =>
   if b=true then te σ4 H5 fun y H6=>∃m',m'<m∧W (i+1) m' (ys++[y]) H6 else ∃m',m'<m∧W (i+1) m' ys H5)
section
variable {K:PySem.W.Frag} {g:TG} {tb:TS} {D:qf2} {σ:St} {H:Hp} {a:Addr} {xs:List V} {tl:TE} {ta:TA} {nt:Nat} {caps:List Nat} {tt:TT} {te:TE} {Q:VK}
def qs6:qng (qnP K tl) g tb D σ H↔tl σ H fun x H1=>∃a,x = .ref a∧(∃xs,SqL K H1 a xs)∧qc3 (Itl K a) g tb D σ H1:=Iff.rfl
def qpJ:qng (qq4 ta) g tb D σ H↔ta σ H fun vs H1=>∃j:Int,vs=[.int j]∧-(2^62)≤j∧j<2^62∧qc3 (Itr 0 j.toNat) g tb D σ H1:=Iff.rfl
def qqs:qng (qqU ta) g tb D σ H↔ta σ H fun vs H1=>∃i j:Int,vs=[.int i,.int j]∧(-(2^62)≤i∧i<2^62∧-(2^62)≤j∧j<2^62)∧qc3 (Itr i (j-i).toNat) g tb D σ H1:=Iff.rfl
def qqK:qgY nt caps (qnP K tl) g tt te σ H Q↔tl σ H fun x H1=>∃a,x = .ref a∧(∃xs,SqL K H1 a xs)∧qcx (Itl K a) nt caps g tt te σ H1 Q:=Iff.rfl
def qoM:qgY nt caps (qq4 ta) g tt te σ H Q↔ta σ H fun vs H1=>∃j:Int,vs=[.int j]∧-(2^62)≤j∧j<2^62∧qcx (Itr 0 j.toNat) nt caps g tt te σ H1 Q:=Iff.rfl
def qoz:qgY nt caps (qqU ta) g tt te σ H Q↔ta σ H fun vs H1=>∃i j:Int,vs=[.int i,.int j]∧(-(2^62)≤i∧i<2^62∧-(2^62)≤j∧j<2^62)∧qcx (Itr i (j-i).toNat) nt caps g tt te σ H1 Q:=Iff.rfl
def qqC (Pv:Nat→St→Hp→Prop) (h0:Pv 0 σ H) (hl:∀i σ H,i≤xs.length→Pv i σ H→SqL K H a xs)
 (hs:∀i x σ H,xs[i]?=some x→Pv i σ H→g x σ H fun σ2 H2=>tb { D with nx:=Pv (i+1),ct:=Pv (i+1),bk:=D.nx } σ2 H2) (hd:∀σ H,Pv xs.length σ H→D.nx σ H):qc3 (Itl K a) g tb D σ H:=qoB Pv h0 hl hs hd
def qrU {lo:Int} {n:Nat} (Pv:Nat→St→Hp→Prop) (h0:Pv 0 σ H)
 (hs:∀i σ H,i<n→Pv i σ H→g (.int (lo+i)) σ H fun σ2 H2=>tb { D with nx:=Pv (i+1),ct:=Pv (i+1),bk:=D.nx } σ2 H2) (hd:∀σ H,Pv n σ H→D.nx σ H):qc3 (Itr lo n) g tb D σ H:=qmb Pv h0 hs hd
end
section
variable {t u t' u':TS} {te:TE} {g:TG} {c:TT} {D:qf2} {σ:St} {H:Hp} {wi:TI} {tb:TS}
def qnt:qmS (qru te g) u D σ H↔te σ H fun x H1=>g x σ H1 (u D):=Iff.rfl
def qkQ:qmS (qpI te) u D σ H↔te σ H fun _ H1=>u D σ H1:=Iff.rfl
def qnG:qmS (qng wi g tb) u D σ H↔qng wi g tb { D with nx:=u D } σ H:=Iff.rfl
def qkB:qmS (qjK c tb) u D σ H↔qjK c tb { D with nx:=u D } σ H:=Iff.rfl
def qoJ:qmS (qsb c (qtF te) qlP) u D σ H↔c σ H fun b H1=>if b=true then te σ H1 D.rt else u D σ H1:=Iff.rfl
def qqI:qsb c t u D σ H↔c σ H fun b H1=>if b=true then t D σ H1 else u D σ H1:=Iff.rfl
def qbR (I:St→Hp→Prop) (h2:∀σ' H',I σ' H'→u D σ' H') (h1:∀N:St→Hp→Prop,(∀σ' H',I σ' H'→N σ' H')→t { D with nx:=N } σ H):qmS t u D σ H:=h1 (u D) h2
end
def rdg {t:TS} {D:qf2} {σ σ':St} {H:Hp} (e:σ=σ') (h:t D σ' H):t D σ H:=e▸h
def qr5 (K:PySem.W.Frag) (x y:V) (H:Hp) (b:Bool):Prop:=(qoD x y=true∧b=decide (x=y)) ∨
 ∃a c xs ys,x = .ref a∧y = .ref c∧SqL K H a xs∧SqL K H c ys∧xs.all qbz=true∧ys.all qbz=true∧b=qgb xs ys
def qnV (K:PySem.W.Frag):R2:=fun x y H Q=>∃b,qr5 K x y H b∧Q (.bl b) H
def qnm (K:PySem.W.Frag):R2:=fun x y H Q=>∃b,qr5 K x y H b∧Q (.bl (!b)) H
def qvb (K:PySem.W.Frag) (x y:V) (H:Hp) (v:V):Prop:=(∃p xs i,x = .ref p∧y = .int i∧SqL K H p xs∧atI xs i=some v)∨∃p xs i,x = .ref p∧y = .int i∧SqT K H p xs∧atI xs i=some v
def qum (K:PySem.W.Frag):R2:=fun x y H Q=>∃v,qvb K x y H v∧Q v H
section
variable {K:PySem.W.Frag} {H:Hp} {Q:VK} {i j:Int} {a c:Addr} {b b':Bool} {z z':Str} {xs ys:List V}
def qoR:qr5 K (.int i) (.int j) H b↔b=decide (i=j):=by
 constructor
 · rintro (⟨_,e⟩ | ⟨_,_,_,_,e,_⟩)
   · rw [e];simp
   · cases e
 · intro e;exact .inl ⟨rfl,by rw [e];simp⟩
def qpd {b'':Bool}:qr5 K (.bl b') (.bl b) H b''↔b''=decide (b'=b):=by
 constructor
 · rintro (⟨_,e⟩ | ⟨_,_,_,_,e,_⟩)
   · rw [e];simp
   · cases e
 · intro e;exact .inl ⟨rfl,by rw [e];simp⟩
def qo5:qr5 K (.str z) (.str z') H b↔b=decide (z=z'):=by
 constructor
 · rintro (⟨_,e⟩ | ⟨_,_,_,_,e,_⟩)
   · rw [e];simp
   · cases e
 · intro e;exact .inl ⟨rfl,by rw [e];simp⟩
def qsp:qnV K (.int i) (.int j) H Q↔Q (.bl (decide (i=j))) H:=by unfold qnV;simp [qoR]
def qrL:qnm K (.int i) (.int j) H Q↔Q (.bl (!decide (i=j))) H:=by unfold qnm;simp [qoR]
def qrZ:qnV K (.bl b) (.bl b') H Q↔Q (.bl (decide (b=b'))) H:=by unfold qnV;simp [qpd]
def qta:qnm K (.bl b) (.bl b') H Q↔Q (.bl (!decide (b=b'))) H:=by unfold qnm;simp [qpd]
def qoU:qnV K (.str z) (.str z') H Q↔Q (.bl (decide (z=z'))) H:=by unfold qnV;simp [qo5]
def qpq:qnm K (.str z) (.str z') H Q↔Q (.bl (!decide (z=z'))) H:=by unfold qnm;simp [qo5]
def qkf (h1:SqL K H a xs) (h2:SqL K H c ys) (f1:xs.all qbz=true) (f2:ys.all qbz=true) (q:Q (.bl (qgb xs ys)) H):qnV K (.ref a) (.ref c) H Q:=⟨_,.inr ⟨a,c,xs,ys,rfl,rfl,h1,h2,f1,f2,rfl⟩,q⟩
def qub (h1:SqL K H a xs) (h2:SqL K H c ys) (f1:xs.all qbz=true) (f2:ys.all qbz=true) (q:Q (.bl (!qgb xs ys)) H):qnm K (.ref a) (.ref c) H Q:=⟨_,.inr ⟨a,c,xs,ys,rfl,rfl,h1,h2,f1,f2,rfl⟩,q⟩
def qaP {v:V} (h:SqL K H a xs) (e:atI xs i=some v) (q:Q v H):qum K (.ref a) (.int i) H Q:=⟨v,.inl ⟨a,xs,i,rfl,rfl,h,e⟩,q⟩
def qaL {v:V} (h:SqT K H a xs) (e:atI xs i=some v) (q:Q v H):qum K (.ref a) (.int i) H Q:=⟨v,.inr ⟨a,xs,i,rfl,rfl,h,e⟩,q⟩
def qax (h:X.K=K) (hu:X.A.units<cLine):OpR X (compareOp .Eq) (qnV K):=by
 subst h
 intro pins s σ H x y v u Q I rx ry q
 obtain ⟨b,hb,q⟩:=q
 rcases hb with ⟨hs,rfl⟩ | ⟨a,c,xs,ys,rfl,rfl,h1,h2,f1,f2,rfl⟩
 · exact qtD pins s σ H x y v u Q I rx ry ⟨hs,q⟩
 · exact qrX hu pins s σ H _ _ v u Q I rx ry ⟨a,c,xs,ys,rfl,rfl,h1,h2,f1,f2,q⟩
def qjF (h:X.K=K) (hu:X.A.units<cLine):OpR X (compareOp .NotEq) (qnm K):=by
 subst h
 intro pins s σ H x y v u Q I rx ry q
 obtain ⟨b,hb,q⟩:=q
 rcases hb with ⟨hs,rfl⟩ | ⟨a,c,xs,ys,rfl,rfl,h1,h2,f1,f2,rfl⟩
 · exact qt1 pins s σ H x y v u Q I rx ry ⟨hs,q⟩
 · exact qsY hu pins s σ H _ _ v u Q I rx ry ⟨a,c,xs,ys,rfl,rfl,h1,h2,f1,f2,q⟩
def qbe (h:X.K=K):OpR X (binaryOp .Add) (qqk K):=h▸qqc
def qmQ (h:X.K=K):OpR X (compareOp .NotIn) (rIn K true):=h▸qhB
def qpH {r r':R2} (h:IxR X r) (hr:∀x y H Q,r' x y H Q→r x y H Q):IxR X r' :=
 fun value slice pins s σ H x y v u Q I rx ry q e=>h value slice pins s σ H x y v u Q I rx ry (hr _ _ _ _ q) e
def qaS (h:X.K=K):IxR X (qum K):=by
 subst h
 refine qpH qrT fun x y H Q q=>?_
 obtain ⟨z,hz,q⟩:=q
 rcases hz with ⟨p,xs,i,e1,e2,e3,e4⟩ | ⟨p,xs,i,e1,e2,e3,e4⟩
 · exact .inl ⟨p,xs,i,z,e1,e2,e3,e4,q⟩
 · exact .inr (.inl ⟨p,xs,i,z,e1,e2,e3,e4,q⟩)
def qaO (h:X.K=K):qb7 X (.builtin "len") (fun xs H Q=>∃p ys,xs=[.ref p]∧(SqL K H p ys∨SqT K H p ys)∧Q (.int ys.length) H):=h▸qhZ
def qto (h:X.K=K):SlR X (quz K):=h▸qqi
end
def sp1 (R:V→Hp→VK→Prop):Sp:=fun vs H Q _=>∃a,vs=[a]∧R a H Q
def sp2 (R:V→V→Hp→VK→Prop):Sp:=fun vs H Q _=>∃a b,vs=[a,b]∧R a b H Q
def sp3 (R:V→V→V→Hp→VK→Prop):Sp:=fun vs H Q _=>∃a b c,vs=[a,b,c]∧R a b c H Q
def sp4 (R:V→V→V→V→Hp→VK→Prop):Sp:=fun vs H Q _=>∃a b c d,vs=[a,b,c,d]∧R a b c d H Q
def qm7 (K:PySem.W.Frag):Sp:=sp1 fun x H Q=>∃(a:Addr) (ns:List Int),x = .ref a∧SqL K H a (ns.map V.int)∧ns.length≤63∧∀H',Q (.bl true) H'
end
end L2
namespace Tim
open PySem PyProof.Rows
section
variable {prog:Program} {w:World} {A:Around} {E:Value→Shared→Prop} {s:Shared}
def sort_any {a:Addr} {vs:List Value} {ns:List Int} {n:Nat} {P:Fin→Shared→Prop} (at0:s.heap.get? a=some (seqObj "list" vs.toArray n)) (hI:IntsAre vs ns) (hz:vs.length≤63)
   (h:∀(out:Array Value) (ms:List Int),IntsAre out.toList ms→ms.Perm ns→ms.Pairwise (·≤·)→P (.done (.ret .none)) { s with heap:=sortedHeap s.heap a vs out }) :
   wpAny (model prog w) A (Builtin.«list.sort» ⟨[.ref a],[]⟩) P E s:=by
 exact list_sort_tree at0 hI (by omega) h
def sorted_any {l:Addr} {vs:List Value} {ns:List Int} {Q:Value→Shared→Prop} (hl:s.heap.IsList l vs.toArray) (hI:IntsAre vs ns) (hz:vs.length≤63)
   (h:∀(out:Array Value) (ms:List Int),IntsAre out.toList ms→ms.Perm ns→ms.Pairwise (·≤·)→Q (.ref (s.heap.objs.size+1)) { s with heap:=sortedAll s.heap vs out }) :
   wpAny (model prog w) A (call (.builtin "sorted") [.ref l]) Q E s:=by
 have lim:vs.length≤sizeLine:=by rw [sizeLine_eq];omega
 refine Calls.call_function_entry kind_sorted plain_sorted entry_sorted (args_sorted1 _) (wpAny_bind (m:=checkCount "sorted" 1 1 _) (wpAny_pure (wpAny_bind (collect_list hl (wpAny_bind (wpAny_newList ?_ lim)) lim))))
 have e:((s.heap.push (seqObj "list" #[] 0)).update s.heap.objs.size (Obj.mapSeq (·++vs.toArray))).objs.size=s.heap.objs.size+1:=by rw [Heap.size_update];exact size_push' _ _
 have at0:(((s.heap.push (seqObj "list" #[] 0)).update s.heap.objs.size (Obj.mapSeq (·++vs.toArray))).push (seqObj "list" vs.toArray 0)).get? (s.heap.objs.size+1)=some (seqObj "list" vs.toArray 0):=e▸ydt _ rfl
 dsimp only
 rw [e]
 exact wpAny_bind (wpAny_holding (wpAny_call_entry slot_list_sort ⟨_,at0,rfl⟩ entry_list_sort (sort_any at0 hI hz fun out ms m1 m2 m3=>⟨_,rfl,wpAny_pure ⟨_,rfl,h out ms m1 m2 m3⟩⟩) (args_list_sort _)))
end
end Tim
namespace STb
open PySem PySem.SetTable PyProof.Rows
section
variable {prog:Program} {w:World} {A:Around} {E:Value→Shared→Prop} {s:Shared} {I S:Addr}
def qkv {ns:List Int} {Q:Value→Shared→Prop} (hh:A.handled=none) (r:RS prog w s.heap S ns) (hbig:ns.length≤63)
   (h:∀(l:Addr) (vs:List Value) (ms:List Int) (n:Nat) (s':Shared),IntsAre vs ms→ms.Perm ns→ms.Pairwise (·≤·)→s.heap.objs.size≤l→s'.heap.get? l=some { cls := .type "list",data := .seq vs.toArray n } →
     (∀b o,s.heap.get? b=some o→s'.heap.get? b=some o)→s'.gens=s.gens→s'.os=s.os→Q (.ref l) s') :
   wpAny (model prog w) A (call (.builtin "sorted") [.ref S]) Q E s:=by
 refine Calls.call_function_entry kind_sorted plain_sorted entry_sorted (args_sorted1 _) ?_
 unfold Builtin.«sorted»
 refine wpAny_bind (m:=checkCount "sorted" 1 1 _) (wpAny_pure ?_)
 have hhs:∀{A':Around},A'.handled=A.handled→A'.handled=none:=fun e=>e.trans hh
 refine wpAny_bind (qiZ (by first | exact hh | simp [hh]) r fun s1 vs ms hi hp kp szl eg eo=>?_)
 have hv:vs.length≤63:=by
   have e1:=hi.length
   have e2:=hp.length_eq
   omega
 have hz:vs.length≤sizeLine:=ydc hv (by decide)
 refine wpAny_bind (wpAny_newList ?_ hz)
 have g1:(s1.heap.push (seqObj "list" vs.toArray 0)).get? s1.heap.objs.size=some (seqObj "list" vs.toArray 0):=ydt _ rfl
 refine wpAny_bind (wpAny_holding (wpAny_call_entry slot_list_sort ⟨_,g1,rfl⟩ entry_list_sort (Tim.sort_any g1 hi hv fun out ns' a1 a2 a3=>⟨_,rfl,?_⟩) (args_list_sort _)))
 obtain ⟨e,he⟩:∃e,(sortedHeap (s1.heap.push (seqObj "list" vs.toArray 0)) s1.heap.objs.size vs out).get? s1.heap.objs.size=some (seqObj "list" out e):=sortedHeap_at g1
 have hle:s.heap.objs.size≤s1.heap.objs.size:=ydb szl
 refine wpAny_pure ⟨_,rfl,h _ out.toList ns' e _ a1 (a2.trans hp) a3 hle (by rw [yfy];exact he) (fun b o q=>?_) eg eo⟩
 have q1:=kp b o q
 have hb:b<s1.heap.objs.size:=ydv q1
 show (sortedHeap (s1.heap.push (seqObj "list" vs.toArray 0)) s1.heap.objs.size vs out).get? b=some o
 rw [sortedHeap_old (ydx hb) (by rw [size_push'];exact ydy hb)]
 exact ydu _ q1
end
end STb
namespace L2
open PySem PySem.Spec PyProof.Rows STb
def qmd (P:Program) (w:World) (a:Addr) (ns:List Int):HO := .ext fun h=>RS P w h a ns
def qd7 (ns:List Int):List Int:=ns.foldl qdk []
def qfz (ns:List Int):qb4 (fun i=>ns.getD i 0) ns.length=qd7 ns:=by
 unfold qb4 qd7
 congr 1
 refine yej (by simp) fun i h1 h2=>?_
 have:i<ns.length:=by simpa using h1
 simp [List.getD,this]
def qcy {ns:List Int} {k:Int}:k∈qd7 ns↔k∈ns:=by
 have key:∀(l acc:List Int),k∈l.foldl qdk acc↔k∈acc∨k∈l:=fun l=>by
   induction l with
   | nil=>intro acc;simp
   | cons x r ih =>
     intro acc
     rw [ybn,ih,qho,ybg,or_assoc]
 rw [qd7,key]
 simp
def qdp (ns:List Int):(qd7 ns).Nodup:=by
 have key:∀(l acc:List Int),acc.Nodup→(l.foldl qdk acc).Nodup:=fun l=>by
   induction l with
   | nil=>intro acc h;exact h
   | cons x r ih=>intro acc h;exact ih _ (qgI h)
 exact key ns [] List.nodup_nil
def qcc (ns:List Int):(qd7 ns).length≤ns.length:=by
 rw [←qfz]
 exact qfc _ _
def qfk (val:Nat→Int):∀i,(qb4 val i).Nodup
 | 0=>by simp [qb4]
 | i+1=>by
   rw [qc1]
   exact qgI (qfk val i)
def qiv:∀(n:Nat) (L:List Nat),L.Nodup→(∀x∈L,x<n)→L.length≤n
 | 0,L,_,h=>by
   cases L with
   | nil=>exact yba _
   | cons a r=>exact absurd (h a (by simp)) (by omega)
 | n+1,L,hn,h=>by
   by_cases hm:n∈L
   · have h1:=qiv n (L.erase n) (hn.erase n) fun x hx=>by
       obtain ⟨h2,h3⟩:=hn.mem_erase_iff.mp hx
       have:=h x h3
       omega
     rw [ybw hm] at h1
     omega
   · have:=qiv n L hn fun x hx=>by
       have:=h x hx
       have:x≠n:=fun z=>hm (z▸hx)
       omega
     omega
def qsa {L:List Int} (hn:L.Nodup) (h:∀z∈L,0≤z∧z<1000):L.length≤1000:=by
 have:=qiv 1000 (L.map Int.toNat) (by
   unfold List.Nodup
   rw [ybv]
   refine List.Pairwise.imp_of_mem (fun {a b} ha hb e=>?_) hn
   have:=h a ha
   have:=h b hb
   omega) fun x hx=>by
   obtain ⟨z,hz,rfl⟩:=ybt.mp hx
   have:=h z hz
   omega
 simpa using this
section
variable {X:Cx} {P:Program} {w:World} {K:PySem.W.Frag}
def qpZ (P:Program) (w:World) (K:PySem.W.Frag):List V→Hp→VK→Prop:=fun xs H Q=>∃(p:Addr) (ns:List Int),xs=[.ref p]∧SqL K H p (ns.map V.int)∧(ns.length≤1000∨∀z∈ns,0≤z∧z<1000)∧∀a,H a=none→Q (.ref a) (upd H a (qmd P w a (qd7 ns)))
def qk0 (hP:X.prog=P) (hw:X.w=w) (hK:X.K=K) (hc:X.calm=true):qb7 X (.type "set") (qpZ P w K):=by
 subst hP hw hK
 intro pins s σ H xs us Q I r h
 obtain ⟨p,ns,rfl,hq,hl,q⟩:=h
 obtain ⟨u,rfl,ru⟩:=qb6 r
 cases ru
 obtain ⟨its,rv,pl,hz⟩:=I.list hq
 have hi:IntsAre its ns:=qb9 rv
 have hle:=hi.length
 have few:∀i,i≤its.toArray.size→(qb4 (fun i=>ns.getD i 0) i).length+1<scanBound:=fun i hi'=>by
   show _<4096
   rw [yfh] at hi'
   rcases hl with hl | hl
   · have:=qfc (fun i=>ns.getD i 0) i
     omega
   · have h1:∀i,i≤ns.length→(qb4 (fun i=>ns.getD i 0) i).Nodup:=fun i _=>qfk _ i
     have h2:=qsa (h1 i (by omega)) fun z hz=>by
       obtain ⟨j,hj,rfl⟩:=(qhF _ _ _).mp hz
       have hj2:j<ns.length:=by omega
       rw [yci,ycj hj2]
       exact hl _ (ydp hj2)
     omega
 refine qlp (I.ok.hd hc) pl.isList (by simpa using hi) few fun h' tk rs kp=>?_
 have em:qb4 (fun i=>ns.getD i 0) its.toArray.size=qd7 ns:=by
   have e:its.toArray.size=ns.length:=by simp [hle]
   rw [e,qfz]
 rw [em] at rs
 refine ⟨.ref _,_,I.laid (a:=s.heap.objs.size) (o:=qmd X.prog X.w s.heap.objs.size (qd7 ns)) (t':=tk) (fun b o e=>kp b o (ydv e) e) (yba _) ⟨rs,?_,fun h1 h2 r1 k=>r1.keep k⟩,rfl,q _ I.fresh⟩
 obtain ⟨es,ep,t,e,_⟩:=rs
 exact ⟨_,e⟩
def qss (P:Program) (w:World) (K:PySem.W.Frag):List V→Hp→VK→Prop:=fun xs H Q=>∃(p:Addr) (ns:List Int),xs=[.ref p]∧SqL K H p (ns.map V.int)∧ns.length≤1000∧∀a,H a=none→Q (.ref a) (upd H a (qmd P w a (qd7 ns)))
def qdP (hP:X.prog=P) (hw:X.w=w) (hK:X.K=K) (hc:X.calm=true):qb7 X (.type "set") (qss P w K):=by
 intro pins s σ H xs us Q I r h
 obtain ⟨p,ns,e,hq,hl,q⟩:=h
 exact qk0 hP hw hK hc pins s σ H xs us Q I r ⟨p,ns,e,hq,.inl hl,q⟩
def qsL (P:Program) (w:World):List V→Hp→VK→Prop:=fun xs H Q=>∃(a:Addr) (ns:List Int),xs=[.ref a]∧H a=some (qmd P w a ns)∧ns.length≤63∧∀(l:Addr) (ms:List Int),H l=none→ms.Perm ns→ms.Pairwise (·≤·)→Q (.ref l) (upd H l (.lst (ms.map V.int)))
def qkz (hP:X.prog=P) (hw:X.w=w) (hc:X.calm=true):qb7 X (.builtin "sorted") (qsL P w):=by
 subst hP hw
 intro pins s σ H xs us Q I r h
 obtain ⟨a,ns,rfl,ha,hl,q⟩:=h
 obtain ⟨u,rfl,ru⟩:=qb6 r
 cases ru
 have rs:RS X.prog X.w s.heap a ns:=(I.hok a _ ha).1
 refine qkv (I.ok.hd hc) rs hl fun l vs ms n s' hi hp pw hle g kp eg eo=>?_
 obtain ⟨h',g',d',t',o'⟩:=s'
 have e1:o'=s.os:=eo
 have e2:g'=s.gens:=eg
 subst e1 e2
 have hn:H l=none:=I.hok.fresh hle
 have e3:=hi.length
 have e4:=hp.length_eq
 have hok:=I.hok.laid (h':=h') (a:=l) (o := .lst (ms.map V.int)) kp hle ⟨by rw [ycd];exact ydc (show ms.length≤63 by omega) (by decide),vs,n,qd4 hi,g⟩
 refine ⟨.ref l,_,I.call' (s':=⟨h',s.gens,d',t',s.os⟩) (ch:=[]) rfl (Un.laid kp hle hn) hok I.bare (fun _ z=>nomatch z),rfl,q l ms hn hp pw⟩
def qte (K:PySem.W.Frag):List V→Hp→VK→Prop:=fun xs H Q=>∃(p:Addr) (ns:List Int),xs=[.ref p]∧SqL K H p (ns.map V.int)∧ns.length≤63∧∀(l:Addr) (ms:List Int),H l=none→ms.Perm ns→ms.Pairwise (·≤·)→Q (.ref l) (upd H l (.lst (ms.map V.int)))
def qkb (hK:X.K=K):qb7 X (.builtin "sorted") (qte K):=by
 subst hK
 intro pins s σ H xs us Q I r h
 obtain ⟨p,ns,rfl,hq,hl,q⟩:=h
 obtain ⟨u,rfl,ru⟩:=qb6 r
 cases ru
 obtain ⟨its,rv,pl,hz⟩:=I.list hq
 have hi:IntsAre its ns:=qb9 rv
 have hle:=hi.length
 refine Tim.sorted_any pl.isList hi (by omega) fun out ms a1 a2 a3=>?_
 obtain ⟨e,he⟩:=sortedAll_at s.heap its out
 have hn:H (s.heap.objs.size+1)=none:=I.hok.fresh (ycw _)
 have e4:=a2.length_eq
 refine ⟨.ref _,_,I.laid (a:=s.heap.objs.size+1) (o := .lst (ms.map V.int)) (t':=s.toks) (fun b o z=>sortedAll_old z) (ycw _) ⟨by rw [ycd];exact ydc (show ms.length≤63 by omega) (by decide),out.toList,e,qd4 a1,by rw [yfy];exact he⟩,rfl,q _ ms hn a2 a3⟩
def qs9 (P:Program) (w:World) (K:PySem.W.Frag):List V→Hp→VK→Prop:=fun xs H Q=>∃(a:Addr) (ns:List Int),xs=[.ref a]∧(SqL K H a (ns.map V.int)∨H a=some (qmd P w a ns))∧ns.length≤63 ∧
 ∀(l:Addr) (ms:List Int),H l=none→ms.Perm ns→ms.Pairwise (·≤·)→Q (.ref l) (upd H l (.lst (ms.map V.int)))
def qbr (hP:X.prog=P) (hw:X.w=w) (hK:X.K=K) (hc:X.calm=true):qb7 X (.builtin "sorted") (qs9 P w K):=by
 intro pins s σ H xs us Q I r h
 obtain ⟨a,ns,rfl,h1 | h1,hl,q⟩:=h
 · exact qkb hK pins s σ H _ us Q I r ⟨a,ns,rfl,h1,hl,q⟩
 · exact qkz hP hw hc pins s σ H _ us Q I r ⟨a,ns,rfl,h1,hl,q⟩
end
end L2
namespace L2
open PySem PySem.Spec PyProof.Rows
def qdt (a b:Nat):Builtin.bitAnd (a:Int) (b:Int)=((a&&&b:Nat):Int):=by
 rw [bitAnd_pp (by omega) (by omega)]
 rfl
def qdF (a b:Nat):Builtin.bitOr (a:Int) (b:Int)=((a|||b:Nat):Int):=by
 rw [bitOr_and,qdt]
 have h:∀n (a b:Nat),a<2^n→a+b=(a|||b)+(a&&&b):=by
   intro n
   induction n with
   | zero =>
     intro a b ha
     have:a=0:=by omega
     subst this
     simp
   | succ n ih =>
     intro a b ha
     have q:=ih (a/2) (b/2) (by rw [yal] at ha;omega)
     have e1:(a|||b)/2=a/2|||b/2:=Nat.or_div_two
     have e2:(a&&&b)/2=a/2&&&b/2:=Nat.and_div_two
     have m1:(a|||b)%2=if a%2=1∨b%2=1 then 1 else 0:=by
       have:=yao a b 0
       simp only [yam] at this
       rcases yan (a|||b) with z | z<;>rcases yan a with z1 | z1<;>rcases yan b with z2 | z2<;>simp [z,z1,z2] at this ⊢
     have m2:(a&&&b)%2=if a%2=1∧b%2=1 then 1 else 0:=by
       have:=yaa a b 0
       simp only [yam] at this
       rcases yan (a&&&b) with z | z<;>rcases yan a with z1 | z1<;>rcases yan b with z2 | z2<;>simp [z,z1,z2] at this ⊢
     rw [←e1,←e2] at q
     clear ih e1 e2 ha
     generalize (a|||b)=x at q m1 ⊢
     generalize (a&&&b)=y at q m2 ⊢
     split at m1<;>split at m2<;>omega
 have:=h (a+1) a b (yaf (ycx a) (ydb yap))
 omega
def qlO (ns:List Int):(ns.map V.int).all qbz=true:=by
 rw [ybi]
 intro x hx
 obtain ⟨z,_,rfl⟩:=ybt.mp hx
 rfl
def qg1 (k:Nat):(2:Int)^k=((2^k:Nat):Int):=by
 rw [Int.natCast_pow]
 rfl
end L2
namespace L2
open PySem PySem.Spec PyProof.Rows
section
variable {X:Cx} {K:PySem.W.Frag}
def qmF (hc:X.calm=true) (hK:X.K=K):qb7 X (.builtin "sum") (fun xs H Q=>∃(p:Addr) (ns:List Int),xs=[.ref p]∧SqL K H p (ns.map V.int)∧Q (.int ns.sum) H):=by
 subst hK
 intro pins s σ H xs us Q I r h
 obtain ⟨p,ns,rfl,hq,q⟩:=h
 obtain ⟨u,rfl,ru⟩:=qb6 r
 cases ru
 obtain ⟨its,rv,pl,hz⟩:=I.list hq
 have hi:IntsAre its ns:=qb9 rv
 obtain ⟨zs,hx⟩:=hi.allInts.items
 refine sum_intListG (I.ok.hd hc) (hx▸pl.isList) fun h' tk t' kp=>?_
 have e:preSum (numAt zs) zs.size=ns.sum:=by
   have e1:numsOf its.toArray.toList=ns:=hi.numsOf
   rw [preSum_eq,yfz (by simp),←nums_intItems,←hx,e1]
 rw [e]
 exact ⟨.int _,H,I.kept (t':=tk) kp,⟨t',rfl⟩,q⟩
def qu2 (K:PySem.W.Frag) (te:TE):TE:=fun σ H Q=>te σ H fun x H1=>∃a xs,x = .ref a∧SqL K H1 a xs∧∀p,H1 p=none→Q (.ref p) (upd H1 p (.lst xs.reverse))
def Itv (K:PySem.W.Frag) (a:Addr) (xs:List V):It:=⟨fun i H=>SqL K H a xs∧i<xs.length,fun i H x H'=>H'=H∧xs.reverse[i]?=some x,fun i H=>SqL K H a xs∧xs.length≤i⟩
def qnA {P:Program} {w:World} {K:PySem.W.Frag} {tg:Expr} (a it:Addr) (xs:List V):qnh P w K tg (Itv K a xs) [it] it (fun i h=>i≤xs.length∧h.IsRevIter it a ((xs.length:Int)-1-i)) where
 mem:=by simp
 obj:=fun i h st b hb=>by
   obtain rfl:b=it:=by simpa using hb
   obtain ⟨_,o,e,c,d⟩:=st
   exact ⟨o,e,fun v z=>by rw [d] at z;cases z⟩
 keep:=fun i h h' st k=>⟨st.1,st.2.at fun o e=>k it (by simp) o e⟩
 item:=by
   intro X hP hw hK hc i pins s σ H E I hf st hg
   subst hP hw hK
   obtain ⟨hq,hi⟩:=hg
   obtain ⟨its,rv,p,hz⟩:=I.list hq
   have hl:=rv.length
   obtain ⟨f0,f1,f2,f3,f4,f5⟩:=hf it (by simp)
   have hx:xs[xs.length-1-i]?=some (xs[xs.length-1-i]'(by omega)):=ycj (by omega)
   obtain ⟨u,hu,ru⟩:=rv.get hx
   have e1:(xs.length:Int)-1-(i:Int)=((xs.length-1-i:Nat):Int):=by omega
   have e2:((xs.length-1-i:Nat):Int)-1=(xs.length:Int)-1-((i+1:Nat):Int):=by omega
   have st2:=st.2
   rw [e1] at st2
   refine wpAny_pyNext_rev_item st2 p.isList (x:=u) (by simpa using hu) fun h' st' sb=>?_
   rw [e2] at st'
   have I1:Inv X pins σ H { s with heap:=h' }:=I.turned (t':=s.toks) (fun b o hb e=>(sb.2 b hb).trans e) f0 f1 f3 f4 f5
   obtain ⟨o,e,c,d⟩:=id st'
   refine ⟨u,rfl,qml (s:={ s with heap:=h' }) e c d (by decide) ⟨_,H,I1,ru,⟨rfl,?_⟩,⟨hi,st'⟩,fun b hb=>(hf b hb).1⟩⟩
   rw [List.getElem?_reverse hi]
   exact hx
 done:=by
   intro X hP hw hK hc i pins s σ H E I hf st hg
   subst hP hw hK
   obtain ⟨hq,hi⟩:=hg
   obtain ⟨f0,f1,f2,f3,f4,f5⟩:=hf it (by simp)
   have e1:(xs.length:Int)-1-(i:Int) = -1:=by have:=st.1;omega
   have st2:=st.2
   rw [e1] at st2
   exact wpAny_pyNext_rev_end (I.ok.hd hc) st2 fun h' eb=>⟨rfl,I.turned (t':=s.toks) (fun b o hb e=>eb b o hb e) f0 f1 f3 f4 f5⟩
 self:=fun _ _ _ _ _ st h=>wpAny_pyIter_revIter st.2 h
def qur (K:PySem.W.Frag) (ta:TA):TI:=fun σ H R=>ta σ H fun vs H1=>∃a xs,vs=[.ref a]∧SqL K H1 a xs∧R (Itv K a xs) H1
def qiN {a tg:Expr} {ta:TA} {p pos:Pos} (hK:X.K=K) (hg:Gl X "reversed") (hm:X.mg "reversed" = none) (ha:PA X [a] ta) (hs:starEach [a] X.env=[(false,eval a X.env)]:=by rfl):PI X tg (.Call (.Name "reversed" p) [a] [] pos) (qur K ta):=by
 subst hK
 intro pins s σ H R I h
 refine Call_ (qda I hg hm PyProof.Rows.boot_reversed (PyProof.Rows.callWith_type1 (thn (ha pos pins s σ H _ I h) fun us s1 ⟨vs,H1,I1,r1,q1⟩=>?_) hs rfl))
 obtain ⟨b,xs,rfl,hq,q⟩:=q1
 obtain ⟨u,rfl,ru⟩:=qb6 r1
 cases ru
 obtain ⟨its,rv,pl,hz⟩:=I1.list hq
 have hl:=rv.length
 refine call_reversed_list pl.isList ?_
 have e:(its.toArray.size:Int)-1=(xs.length:Int)-1-((0:Nat):Int):=by rw [yfh];omega
 rw [e]
 have I2:Inv X pins σ H1 { s1 with heap:=s1.heap.push (revObj b ((xs.length:Int)-1-((0:Nat):Int))) }:=I1.kept (t':=s1.toks) fun c o e=>ydu _ e
 have at0:(s1.heap.push (revObj b ((xs.length:Int)-1-((0:Nat):Int)))).IsRevIter s1.heap.objs.size b ((xs.length:Int)-1-((0:Nat):Int)):=⟨_,ydt _ rfl,rfl,rfl⟩
 refine wpAny_pyIter_revIter at0 ⟨s1.heap.objs.size,[s1.heap.objs.size],_,_,H1,rfl,I2,qnA b _ xs,⟨ybz _,at0⟩,fun c hb=>?_,q⟩
 obtain rfl:c=s1.heap.objs.size:=by simpa using hb
 exact I1.fpOk (yba _) (I1.hok.fresh (yba _))
end
section
variable {K:PySem.W.Frag} {g:TG} {tb:TS} {D:qf2} {σ:St} {H:Hp} {a:Addr} {xs:List V} {ta:TA}
def qqG:qng (qur K ta) g tb D σ H↔ta σ H fun vs H1=>∃a xs,vs=[.ref a]∧SqL K H1 a xs∧qc3 (Itv K a xs) g tb D σ H1:=Iff.rfl
def qtH (Pv:Nat→St→Hp→Prop) (h0:Pv 0 σ H) (hl:∀i σ H,i≤xs.length→Pv i σ H→SqL K H a xs)
   (hs:∀i x σ H,xs.reverse[i]?=some x→Pv i σ H→g x σ H fun σ2 H2=>tb { D with nx:=Pv (i+1),ct:=Pv (i+1),bk:=D.nx } σ2 H2) (hd:∀σ H,Pv xs.length σ H→D.nx σ H):qc3 (Itv K a xs) g tb D σ H:=by
 refine ⟨fun i m σ H=>m=xs.length-i∧i≤xs.length∧Pv i σ H,⟨_,rfl,ybz _,h0⟩,?_⟩
 rintro i m σ H ⟨rfl,hi,p⟩
 by_cases hlt:i<xs.length
 · refine .inr ⟨⟨hl i σ H hi p,hlt⟩,Pv (i+1),fun σ' H' q=>⟨xs.length-(i+1),by omega,rfl,hlt,q⟩,fun x H' y=>?_⟩
   obtain ⟨rfl,y⟩:=y
   exact hs i x σ _ y p
 · obtain rfl:i=xs.length:=by omega
   exact .inl ⟨⟨hl _ σ H hi p,yba _⟩,hd σ H p⟩
end
end L2
namespace L2
open PySem PySem.Spec PyProof.Rows
abbrev nI (fs:List Nat):List Int:=fs.map fun (n:Nat)=>(n:Int)
abbrev nV (fs:List Nat):List V:=(nI fs).map V.int
def qa1 (fs:List Nat):(nV fs).length=fs.length:=by simp
def qjL {fs:List Nat} {i:Nat} {x:V} (h:(nV fs)[i]?=some x):∃a,fs[i]?=some a∧x = .int (a:Nat):=by
 rw [yco,yco] at h
 cases e:fs[i]? with
 | none=>rw [e] at h;cases h
 | some a=>rw [e] at h;cases h;exact ⟨a,rfl,rfl⟩
def qkC {fs:List Nat} {i a:Nat} (h:fs[i]?=some a):(nV fs)[i]?=some (.int (a:Nat)):=by
 rw [yco,yco,h]
 rfl
def qoZ {fs:List Nat} {x:V} (h:x∈nV fs):∃a∈fs,x = .int (a:Nat):=by
 obtain ⟨z,hz,rfl⟩:=ybt.mp h
 obtain ⟨a,ha,rfl⟩:=ybt.mp hz
 exact ⟨a,ha,rfl⟩
def qiR (fs:List Nat) (a:Nat):nV fs++[V.int (a:Nat)]=nV (fs++[a]):=by simp
def qfr (fs gs:List Nat):nV fs++nV gs=nV (fs++gs):=by simp
def qsz {a b:List Nat}:nI a=nI b↔a=b:=by
 constructor
 · intro h
   have:(nI a).map Int.toNat=(nI b).map Int.toNat:=by rw [h]
   rw [nI,nI,ycv,ycv,show (Int.toNat ∘ fun (n:Nat)=>(n:Int))=id from funext fun n=>yfg n,yga,yga] at this
   exact this
 · rintro rfl;rfl
def qo4 (a b:List Nat):qgb (nV a) (nV b)=decide (a=b):=by
 rw [qmu]
 exact decide_eq_decide.mpr qsz
def qmi (fs:List Nat):(nV fs).all qbz=true:=qlO _
def qmX {ms:List Int} (h:∀z∈ms,0≤z):nI (ms.map Int.toNat)=ms:=by
 rw [nI,ycv]
 conv=>rhs;rw [←yga ms]
 refine ych fun z hz=>?_
 have:=h z hz
 show ((z.toNat:Nat):Int)=z
 omega
def sd (fs:List Nat):List Nat:=(List.range (fs.foldl max 0+1)).filter fun x=>decide (x∈fs)
def qrQ (fs:List Nat):∀z,z≤fs.foldl max z∧∀x∈fs,x≤fs.foldl max z:=by
 induction fs with
 | nil=>intro z;exact ⟨yba _,fun x hx=>by cases hx⟩
 | cons a fs ih =>
   intro z
   obtain ⟨h1,h2⟩:=ih (max z a)
   rw [ybn]
   refine ⟨by omega,fun x hx=>?_⟩
   rcases ybg.mp hx with rfl | hx
   · omega
   · exact h2 x hx
def qgi {fs:List Nat} {x:Nat}:x∈sd fs↔x∈fs:=by
 unfold sd
 rw [ybb,ybk,decide_eq_true_eq]
 exact ⟨fun h=>h.2,fun h=>⟨by have:=(qrQ fs 0).2 x h;omega,h⟩⟩
def qhm (fs:List Nat):(sd fs).Pairwise (· < ·):=ybj.sublist ybd
def qqV {fs gs:List Nat} (h:gs.Pairwise (· < ·)) (e:∀x,x∈gs↔x∈fs):gs=sd fs:=Fam.rise_ext h (qhm fs) fun x=>(e x).trans qgi.symm
def qk2 {fs:List Nat} (h:fs.Pairwise (· < ·)):sd fs=fs:=(qqV h fun _=>Iff.rfl).symm
def qbO {fs:List Nat} {ms:List Int} (h1:ms.Perm (qd7 (nI fs))) (h2:ms.Pairwise (·≤·)):ms=nI (sd fs):=by
 have nn:∀z∈ms,0≤z:=fun z hz=>by
   have:=qcy.mp (h1.mem_iff.mp hz)
   obtain ⟨a,_,rfl⟩:=ybt.mp this
   omega
 have e:=qmX nn
 rw [←e]
 congr 1
 have nd:ms.Nodup:=h1.nodup_iff.mpr (qdp _)
 refine qqV ?_ fun x=>?_
 · rw [ybv]
   have:=ycm.mp h2
   have nd':=ycm.mp nd
   rw [ycm]
   intro i j hi hj hij
   have a1:=this i j hi hj hij
   have a2:ms[i]≠ms[j]:=nd' i j hi hj hij
   have a3:=nn ms[i] (ydp _)
   omega
 · rw [ybt]
   constructor
   · rintro ⟨z,hz,rfl⟩
     have:=qcy.mp (h1.mem_iff.mp hz)
     obtain ⟨a,ha,rfl⟩:=ybt.mp this
     simpa using ha
   · intro hx
     exact ⟨x,h1.mem_iff.mpr (qcy.mpr (ybt.mpr ⟨x,hx,rfl⟩)),by simp⟩
def qlf {fs:List Nat} {ms:List Int} (hn:fs.Nodup) (h1:ms.Perm (nI fs)) (h2:ms.Pairwise (·≤·)):ms=nI (sd fs):=by
 refine qbO (h1.trans ?_) h2
 have:(nI fs).Nodup:=by
   rw [nI,List.Nodup,ybv]
   exact hn.imp fun h e=>h (by omega)
 refine (ygb this (qdp _)).mpr fun z=>?_
 rw [qcy]
end L2
namespace L2
open PySem PySem.Spec PyProof.Rows
section
variable {K:PySem.W.Frag} {g:TG} {σ:St} {H:Hp} {a:Addr} {xs:List V} {nt:Nat} {caps:List Nat} {tt:TT} {te:TE} {Q:VK}
def qe3 (Pv:Nat→List V→Hp→Prop) (h0:Pv 0 [] H) (hz:xs.length≤sizeLine) (hl:∀i ys H1,i≤xs.length→Pv i ys H1→SqL K H1 a xs∧ys.length≤i)
   (hs:∀i x ys H1,xs[i]?=some x→Pv i ys H1→∀(R:VK) (R':Hp→Prop),(∀y H2,Pv (i+1) (ys++[y]) H2→R y H2)→(∀H2,Pv (i+1) ys H2→R' H2) →
     g x (qbT nt caps σ) H1 fun σ4 H4=>tt σ4 H4 fun b H5=>if b=true then te σ4 H5 R else R' H5)
   (hd:∀ys H1,Pv xs.length ys H1→∀p,H1 p=none→Q (.ref p) (upd H1 p (.lst ys))):qcx (Itl K a) nt caps g tt te σ H Q:=by
 refine ⟨fun i m ys H1=>m=xs.length-i∧i≤xs.length∧Pv i ys H1,⟨_,rfl,ybz _,h0⟩,?_⟩
 rintro i m ys H2 ⟨rfl,hi,p⟩
 obtain ⟨q,hy⟩:=hl i ys H2 hi p
 by_cases hlt:i<xs.length
 · refine .inr ⟨⟨xs,xs[i],q,by simp [hlt]⟩,by omega,fun x H3 y=>?_⟩
   obtain ⟨e,y⟩:=y
   subst e
   exact hs i x ys _ (y xs q) p _ _ (fun v H4 w=>⟨xs.length-(i+1),by omega,rfl,hlt,w⟩) fun H4 w=>⟨xs.length-(i+1),by omega,rfl,hlt,w⟩
 · obtain rfl:i=xs.length:=by omega
   exact .inl ⟨⟨xs,q,yba _⟩,by omega,hd ys H2 p⟩
def qs7 {lo:Int} {n:Nat} (Pv:Nat→List V→Hp→Prop) (h0:Pv 0 [] H) (hz:n≤sizeLine) (hl:∀i ys H1,i≤n→Pv i ys H1→ys.length≤i)
   (hs:∀i ys H1,i<n→Pv i ys H1→∀(R:VK) (R':Hp→Prop),(∀y H2,Pv (i+1) (ys++[y]) H2→R y H2)→(∀H2,Pv (i+1) ys H2→R' H2) →
     g (.int (lo+i)) (qbT nt caps σ) H1 fun σ4 H4=>tt σ4 H4 fun b H5=>if b=true then te σ4 H5 R else R' H5)
   (hd:∀ys H1,Pv n ys H1→∀p,H1 p=none→Q (.ref p) (upd H1 p (.lst ys))):qcx (Itr lo n) nt caps g tt te σ H Q:=by
 refine ⟨fun i m ys H1=>m=n-i∧i≤n∧Pv i ys H1,⟨_,rfl,ybz _,h0⟩,?_⟩
 rintro i m ys H2 ⟨rfl,hi,p⟩
 have hy:=hl i ys H2 hi p
 by_cases hlt:i<n
 · refine .inr ⟨hlt,by omega,fun x H3 y=>?_⟩
   obtain ⟨e,y⟩:=y
   subst e y
   exact hs i ys _ hlt p _ _ (fun v H4 w=>⟨n-(i+1),by omega,rfl,hlt,w⟩) fun H4 w=>⟨n-(i+1),by omega,rfl,hlt,w⟩
 · obtain rfl:i=n:=by omega
   exact .inl ⟨yba _,by omega,hd ys H2 p⟩
def qdf {n:Nat} (c:Nat→Bool) (f:Nat→V) (hz:n≤100000)
   (hs:∀k,k<n→∀H1,qar H H1→∀(R:VK) (R':Hp→Prop),(c k=true→∀H2,qar H1 H2→R (f k) H2)→(c k=false→∀H2,qar H1 H2→R' H2) →
     g (.int (k:Nat)) (qbT nt caps σ) H1 fun σ4 H4=>tt σ4 H4 fun b H5=>if b=true then te σ4 H5 R else R' H5)
   (hd:∀H1 p,qar H H1→H1 p=none→Q (.ref p) (upd H1 p (.lst (((List.range n).filter c).map f)))):qcx (Itr 0 n) nt caps g tt te σ H Q:=by
 refine qs7 (fun i ys H1=>qar H H1∧ys=((List.range i).filter c).map f) ⟨qar.refl _,rfl⟩ (ydc hz (by decide)) (fun i ys H1 _ h=>?_) (fun i ys H1 hi h R R' r1 r2=>?_) fun ys H1 h p hp=>?_
 · rw [h.2,ycd]
   exact ydc (ygc _ _) (by simp)
 · obtain ⟨sm,rfl⟩:=h
   rw [Int.zero_add]
   refine hs i hi H1 sm R R' (fun hc H2 s2=>r1 _ _ ⟨sm.trans s2,?_⟩) fun hc H2 s2=>r2 _ ⟨sm.trans s2,?_⟩
   · rw [yds,yax,ycu];simp [hc]
   · rw [yds,yax,ycu];simp [hc]
 · rw [h.2]
   exact hd H1 p h.1 hp
def qmv {fs:List V} (c:V→Bool) (f:V→V) (hq:SqL K H a fs) (hz:fs.length≤100000)
   (hs:∀x∈fs,∀H1,qar H H1→∀(R:VK) (R':Hp→Prop),(c x=true→∀H2,qar H1 H2→R (f x) H2)→(c x=false→∀H2,qar H1 H2→R' H2) →
     g x (qbT nt caps σ) H1 fun σ4 H4=>tt σ4 H4 fun b H5=>if b=true then te σ4 H5 R else R' H5)
   (hd:∀H1 p,qar H H1→H1 p=none→Q (.ref p) (upd H1 p (.lst ((fs.filter c).map f)))):qcx (Itl K a) nt caps g tt te σ H Q:=by
 refine qe3 (xs:=fs) (fun i ys H1=>qar H H1∧ys=((fs.take i).filter c).map f) ⟨qar.refl _,rfl⟩ (ydc hz (by decide)) (fun i ys H1 hi h=>⟨h.1.seq hq,?_⟩) (fun i x ys H1 hx h R R' r1 r2=>?_) fun ys H1 h p hp=>?_
 · rw [h.2,ycd]
   exact ydc (ygc _ _) (by rw [yfb];omega)
 · obtain ⟨sm,rfl⟩:=h
   have ex:=take_succ_filter c fs i x hx
   refine hs x (yck hx) H1 sm R R' (fun hc H2 s2=>r1 _ _ ⟨sm.trans s2,?_⟩) fun hc H2 s2=>r2 _ ⟨sm.trans s2,?_⟩
   · rw [ex,hc,if_pos rfl,ycu];rfl
   · rw [ex,hc,if_neg yet,yed]
 · rw [h.2,ydi]
   exact hd H1 p h.1 hp
def qbQ {fs:List Nat} (c:Nat→Bool) (f:Nat→V) (hq:SqL K H a (nV fs)) (hz:fs.length≤100000)
   (hs:∀x∈fs,∀H1,qar H H1→∀(R:VK) (R':Hp→Prop),(c x=true→∀H2,qar H1 H2→R (f x) H2)→(c x=false→∀H2,qar H1 H2→R' H2) →
     g (.int (x:Nat)) (qbT nt caps σ) H1 fun σ4 H4=>tt σ4 H4 fun b H5=>if b=true then te σ4 H5 R else R' H5)
   (hd:∀H1 p,qar H H1→H1 p=none→Q (.ref p) (upd H1 p (.lst ((fs.filter c).map f)))):qcx (Itl K a) nt caps g tt te σ H Q:=by
 refine qmv (fs:=nV fs) (fun v=>match v with | .int i=>c i.toNat | _=>false) (fun v=>match v with | .int i=>f i.toNat | _ => .non) hq (by rw [qa1];exact hz) (fun x hx H1 sm R R' r1 r2=>?_) fun H1 p sm hp=>?_
 · obtain ⟨b,hb,rfl⟩:=qoZ hx
   refine hs b hb H1 sm R R' (fun hc=>?_) fun hc=>?_
   · have:=r1 (by simpa using hc)
     simpa using this
   · exact r2 (by simpa using hc)
 · have e:((nV fs).filter (fun v=>match v with | .int i=>c i.toNat | _=>false)).map (fun v=>match v with | .int i=>f i.toNat | _ => .non)=(fs.filter c).map f:=by
     rw [nV,nI,ycv,List.filter_map,ycv]
     rfl
   rw [e]
   exact hd H1 p sm hp
end
def qaq {n:Nat} (h:n≤100000):n≤sizeLine:=ydc h (by decide)
def qcD {n:Nat} (h:n≤100000):n<sizeLine:=ybl h (by decide)
def qlu {b:Bool} {A B:Prop} (h1:b=true→A) (h2:b=false→B):if b=true then A else B:=by
 cases b
 · exact qc4 (h2 rfl)
 · exact qez (h1 rfl)
def qgM {P A B:Prop} [Decidable P] {b:Bool} (e:P↔b=true) (h1:b=true→A) (h2:b=false→B):if P then A else B:=by
 by_cases c:P
 · rw [if_pos c];exact h1 (e.mp c)
 · rw [if_neg c];exact h2 (by cases b with | false=>rfl | true=>exact absurd (e.mpr rfl) c)
def qao {H H':Hp} {p:Addr} {o:HO} (e:upd H p o=H'):H' p=some o:=e▸qaf
def qah {H H':Hp} {p:Addr} {o:HO} (e:upd H p o=H') (h:H p=none):qar H H':=e▸qar.new h
def qcs {H:Hp} {p q:Addr} {o:HO} (h:H p=none) (hq:H q=some o):q≠p:=fun z=>by rw [z,h] at hq;cases hq
def qau {H H':Hp} {p:Addr} (s:qar H H') (h:H' p=none):H p=none:=by
 cases e:H p with
 | none=>rfl
 | some o=>rw [s _ _ e] at h;cases h
def qtU {fs:List Nat} {i b:Nat} (h:fs[i]?=some b):atI (nV fs) (i:Int)=some (.int (b:Nat)):=by
 have hl:=(ycl.mp h).1
 unfold atI ixN
 rw [if_pos (by omega),if_pos (by rw [qa1];omega)]
 show (nV fs)[(i:Int).toNat]?=_
 rw [yfg]
 exact qkC h
def qjS {H:Hp} {p:Addr} {o:HO} (h:H p=some o):H=upd H p o:=funext fun x=>by
 by_cases c:x=p
 · rw [c,qaf,h]
 · rw [qay c]
def qof (fs:List Nat) {n:Nat} (h:fs.length≤n):(sd fs).length≤n:=by
 have nd:(nI (sd fs)).Nodup:=by
   rw [nI,List.Nodup,ybv]
   exact (qhm fs).imp fun h e=>by omega
 have p:(nI (sd fs)).Perm (qd7 (nI fs)):=(ygb nd (qdp _)).mpr fun z=>by
   rw [qcy,ybt,ybt]
   exact ⟨fun ⟨x,hx,e⟩=>⟨x,qgi.mp hx,e⟩,fun ⟨x,hx,e⟩=>⟨x,qgi.mpr hx,e⟩⟩
 have e1:=p.length_eq
 have e2:=qcc (nI fs)
 simp at e1 e2
 omega
def qjZ (n:Nat) (c:Nat→Bool):((List.range n).filter c).map (fun k=>V.int (k:Nat))=nV ((List.range n).filter c):=by simp
def qtb (fs:List Nat):fs.map (fun k=>V.int (k:Nat))=nV fs:=by simp
end L2
namespace L2
open PySem PySem.Spec PyProof.Rows
def qoa (xs:List V) (n:Nat):qiS xs none (some (n:Int))=xs.take n:=by
 unfold qiS
 rw [HT.sIx_nat]
 show (xs.drop 0).take (min n xs.length-0)=_
 rw [ygd,Nat.sub_zero,List.take_eq_take_iff]
 omega
def qdY (xs:List V) (n:Nat):qiS xs (some (n:Int)) none=xs.drop n:=by
 unfold qiS
 rw [HT.sIx_nat]
 show (xs.drop (min n xs.length)).take (xs.length-min n xs.length)=_
 rcases yah n xs.length with z | z
 · rw [Nat.min_eq_left (ydb z),←ydg,ydi]
 · rw [Nat.min_eq_right z,yge z,yge (yba _)]
   simp
end L2
namespace L2
open PySem PySem.Spec PyProof.Rows
section
variable {K:PySem.W.Frag} {g:TG} {tb:TS} {D:qf2} {σ:St} {H:Hp} {a:Addr} {xs:List V} {c:TT}
def qdb {n:Nat} (Pv:Nat→St→Hp→Prop) (h0:Pv 0 σ H)
   (hs:∀i σ H,i<n→Pv i σ H→∀N:St→Hp→Prop,(∀σ' H',Pv (i+1) σ' H'→N σ' H')→g (.int (i:Nat)) σ H fun σ2 H2=>tb { D with nx:=N,ct:=N,bk:=D.nx } σ2 H2) (hd:∀σ H,Pv n σ H→D.nx σ H):qc3 (Itr 0 n) g tb D σ H :=
 qrU Pv h0 (fun i σ H hi p=>by rw [Int.zero_add];exact hs i σ H hi p _ fun _ _ q=>q) hd
def qjP (Pv:Nat→St→Hp→Prop) (h0:Pv 0 σ H) (hl:∀i σ H,i≤xs.length→Pv i σ H→SqL K H a xs)
   (hs:∀i x σ H,xs[i]?=some x→Pv i σ H→∀N:St→Hp→Prop,(∀σ' H',Pv (i+1) σ' H'→N σ' H')→g x σ H fun σ2 H2=>tb { D with nx:=N,ct:=N,bk:=D.nx } σ2 H2) (hd:∀σ H,Pv xs.length σ H→D.nx σ H):qc3 (Itl K a) g tb D σ H :=
 qqC Pv h0 hl (fun i x σ H hx p=>hs i x σ H hx p _ fun _ _ q=>q) hd
def qfX {fs:List Nat} (Pv:Nat→St→Hp→Prop) (h0:Pv 0 σ H) (hl:∀i σ H,i≤fs.length→Pv i σ H→SqL K H a (nV fs))
   (hs:∀i b σ H,fs[i]?=some b→Pv i σ H→∀N:St→Hp→Prop,(∀σ' H',Pv (i+1) σ' H'→N σ' H')→g (.int (b:Nat)) σ H fun σ2 H2=>tb { D with nx:=N,ct:=N,bk:=D.nx } σ2 H2) (hd:∀σ H,Pv fs.length σ H→D.nx σ H):qc3 (Itl K a) g tb D σ H :=
 qqC (xs:=nV fs) Pv h0 (fun i σ H hi p=>hl i σ H (by rwa [qa1] at hi) p) (fun i x σ H hx p=>by
   obtain ⟨b,hb,rfl⟩:=qjL hx
   exact hs i b σ H hb p _ fun _ _ q=>q) fun σ H p=>hd σ H (by rwa [qa1] at p)
def qsO {fs:List Nat} (Pv:Nat→St→Hp→Prop) (h0:Pv 0 σ H) (hl:∀i σ H,i≤fs.length→Pv i σ H→SqL K H a (nV fs))
   (hs:∀i b σ H,fs.reverse[i]?=some b→Pv i σ H→∀N:St→Hp→Prop,(∀σ' H',Pv (i+1) σ' H'→N σ' H')→g (.int (b:Nat)) σ H fun σ2 H2=>tb { D with nx:=N,ct:=N,bk:=D.nx } σ2 H2) (hd:∀σ H,Pv fs.length σ H→D.nx σ H):qc3 (Itv K a (nV fs)) g tb D σ H :=
 qtH Pv h0 (fun i σ H hi p=>hl i σ H (by rwa [qa1] at hi) p) (fun i x σ H hx p=>by
   rw [show (nV fs).reverse=nV fs.reverse by simp] at hx
   obtain ⟨b,hb,rfl⟩:=qjL hx
   exact hs i b σ H hb p _ fun _ _ q=>q) fun σ H p=>hd σ H (by rwa [qa1] at p)
def qse (W:Nat→St→Hp→Prop) (m0:Nat) (h0:W m0 σ H)
   (hs:∀m σ H,W m σ H→∀(T:Hp→Prop),(∀H1,((∀N:St→Hp→Prop,(∀m' σ' H',m'<m→W m' σ' H'→N σ' H')→tb { D with nx:=N,ct:=N,bk:=D.nx } σ H1)→T H1))→c σ H fun b H1=>if b=true then T H1 else D.nx σ H1):qjK c tb D σ H:=by
 refine ⟨W,⟨m0,h0⟩,fun m σ H w=>?_⟩
 exact hs m σ H w (fun H1=>∃N:St→Hp→Prop,(∀σ' H',N σ' H'→∃m',m'<m∧W m' σ' H')∧tb { D with nx:=N,ct:=N,bk:=D.nx } σ H1) fun H1 h=>⟨fun σ' H'=>∃m',m'<m∧W m' σ' H',fun _ _ z=>z,h _ fun m' σ' H' l w'=>⟨m',l,w'⟩⟩
end
end L2
namespace L2
open PySem PySem.Spec PyProof.Rows
def qp7 (a k:Nat):Builtin.bitAnd ((a:Int)/2^((k:Nat):Int).toNat) 1=if a.testBit k=true then 1 else 0:=by
 have e:(a:Int)/2^((k:Nat):Int).toNat=((a/2^k:Nat):Int):=by rw [yfg,qg1];rfl
 rw [e,show (1:Int)=((1:Nat):Int) from rfl,qdt,Nat.and_one_is_mod,Nat.testBit_eq_decide_div_mod_eq]
 by_cases c:a/2^k%2=1
 · simp [c]
 · have:a/2^k%2=0:=by omega
   simp [this]
def qqx (a k:Nat):decide (Builtin.bitAnd ((a:Int)/2^((k:Nat):Int).toNat) 1=1)=a.testBit k:=by
 rw [qp7]
 cases a.testBit k<;>rfl
def qjb {a k:Nat}:Builtin.bitAnd ((a:Int)/2^((k:Nat):Int).toNat) 1=1↔a.testBit k=true:=by
 rw [←qqx,decide_eq_true_eq]
def qbn (k:Nat):(1:Int)*2^((k:Nat):Int).toNat=((2^k:Nat):Int):=by rw [Int.one_mul,yfg,qg1]
end L2
namespace L2
open PySem PySem.Spec PyProof.Rows
inductive Deq (K:PySem.W.Frag) (H:Hp):Nat→V→V→Bool→Prop where
 | flat {n:Nat} {x y:V}:qbz x=true→qbz y=true→Deq K H n x y (eqV x y)
 | lst {n:Nat} {a b:Addr} {xs ys:List V} {e:Nat→Bool}:a≠b→SqL K H a xs→SqL K H b ys→xs.length=ys.length→(∀(j:Nat) (x y:V),xs[j]?=some x→ys[j]?=some y→Deq K H n x y (e j))→Deq K H (n+1) (.ref a) (.ref b) ((List.range xs.length).all e)
 | lstN {n:Nat} {a b:Addr} {xs ys:List V}:a≠b→SqL K H a xs→SqL K H b ys→xs.length≠ys.length→Deq K H (n+1) (.ref a) (.ref b) false
 | tup {n:Nat} {a b:Addr} {xs ys:List V} {e:Nat→Bool}:a≠b→SqT K H a xs→SqT K H b ys→(∀(j:Nat) (x y:V),xs[j]?=some x→ys[j]?=some y→Deq K H n x y (e j))→Deq K H (n+1) (.ref a) (.ref b) ((List.range (min xs.length ys.length)).all e&&xs.length==ys.length)
section
variable {X:Cx} {pins:List (Addr×Obj)} {σ:St} {H:Hp} {s:Shared} {K:PySem.W.Frag}
end
end L2
namespace L2
open PySem PySem.Spec PyProof.Rows
abbrev bV (t:List Bool):List V:=t.map V.bl
def tab (n:Nat) (f:Nat→Bool):List Bool:=(List.range n).map f
def qtj (t:List Bool):(bV t).length=t.length:=by simp
def qpW {n k:Nat} {f:Nat→Bool} (h:k<n):(tab n f)[k]?=some (f k):=by
 unfold tab
 rw [yco,ycp h]
 rfl
def qt3 {t:List Bool} {i:Nat} {b:Bool} (h:t[i]?=some b):atI (bV t) (i:Int)=some (.bl b):=by
 have hl:=(ycl.mp h).1
 unfold atI ixN
 rw [if_pos (by omega),if_pos (by rw [qtj];omega)]
 show (bV t)[(i:Int).toNat]?=_
 rw [yfg,yco,h]
 rfl
def qg6 {n k:Nat} {f:Nat→Bool} (h:k<n):atI (bV (tab n f)) (k:Int)=some (.bl (f k)):=qt3 (qpW h)
def qqe {n:Nat} {f:Nat→Bool}:((List.range n).filter fun _=>true).map (fun k=>V.bl (f k))=bV (tab n f):=by
 rw [ygf.mpr fun _ _=>rfl,tab,bV,ycv]
 rfl
end L2
namespace L2
open PySem PySem.Spec PyProof.Rows
section
variable {X:Cx} {es:List Expr} {t:TA} {te:TE}
def qa3 {v j p} (ha:PE X (.Constant v j p) te) (hr:PA X es t):PA X (.Constant v j p::es) (qdL te t):=qaa ha hr
def qaw {x p} (ha:PE X (.Name x p) te) (hr:PA X es t):PA X (.Name x p::es) (qdL te t):=qaa ha hr
def qow {xs p} (ha:PE X (.List xs p) te) (hr:PA X es t):PA X (.List xs p::es) (qdL te t):=qaa ha hr
def qbt {f as ks p} (ha:PE X (.Call f as ks p) te) (hr:PA X es t):PA X (.Call f as ks p::es) (qdL te t):=qaa ha hr
inductive CI:List Expr→List Int→Prop
 | nil:CI [] []
 | cons {i:Int} {j:Nat} {p:Pos} {es:List Expr} {ns:List Int} (h:CI es ns):CI (.Constant (.int i) j p::es) (i::ns)
def qt8 (ns:List Int):TA:=fun _ H Q=>Q (ns.map V.int) H
end
end L2
namespace L2
open PySem PySem.Spec PyProof.Rows
section
variable {X:Cx} {K:PySem.W.Frag}
def qgn {T:String} {name:Str} {id:String} {r:V→List V→Hp→VK→Prop} {o e:Expr} {es:List Expr} {to:TE} {t:TA} {apos cpos:Pos} (hK:X.K=K) (pa:PlainAttrs T) (slot:Slot T name id) (hty:typeOf (.builtin id)=pure (.type "method_descriptor")) (hm:MtR X id r) (ho:PE X o to) (ha:PA X (e::es) t) (h1:attributeBase o name X.env (eval o X.env)=eval o X.env:=by rfl) (h2:((backTo cpos (starEach (e::es) X.env)).all (fun x=>!x.1)&&(backToKw cpos (keywordEach [] X.env)).all (fun x=>x.1.isSome)&&decide ((e::es).length+([]:List Keyword).length+(if ([]:List Keyword).isEmpty then 0 else 1)<30))=true:=by rfl) (h3:(apos.endLine==cpos.line)=true:=by rfl) (h4:starEach (e::es) X.env=(false,eval e X.env)::starEach es X.env:=by rfl) (h5:(backTo cpos (starEach es X.env)).any (·.1)=false:=by rfl):PE X (.Call (.Attribute o name apos) (e::es) [] cpos) (tBM K T r to t):=by
 subst hK
 exact qbf pa slot hty hm ho ha h1 h2 h3 h4 h5
end
end L2
namespace L2
open PySem PySem.Spec PyProof.Rows
inductive DI:List Expr→TA→Prop
 | nil:DI [] qtp
 | c {v:Const} {j:Nat} {p:Pos} {es:List Expr} {te:TE} {t:TA} (h:∀X,PE X (.Constant v j p) te) (r:DI es t):DI (.Constant v j p::es) (qdL te t)
 | t {xs:List Expr} {b p} {es:List Expr} {te:TE} {t:TA} (h:∀X,PE X (.Tuple xs b p) te) (r:DI es t):DI (.Tuple xs b p::es) (qdL te t)
 | d {ks vs p} {es:List Expr} {te:TE} {t:TA} (h:∀X,PE X (.Dict ks vs p) te) (r:DI es t):DI (.Dict ks vs p::es) (qdL te t)
 | l {xs:List Expr} {p} {es:List Expr} {te:TE} {t:TA} (h:∀X,PE X (.List xs p) te) (r:DI es t):DI (.List xs p::es) (qdL te t)
end L2
namespace L2
open PySem PySem.Spec PyProof.Rows STb
section
variable {prog:Program} {w:World} {A:Around} {E:Value→Shared→Prop} {s:Shared}
end
section
variable {X:Cx}
end
end L2
namespace L2
open PySem PySem.Spec PyProof.Rows
section
variable {X:Cx} {K:PySem.W.Frag} {g:TG} {σ:St} {H:Hp} {a:Addr} {xs:List V} {nt:Nat} {caps:List Nat} {tt:TT} {te tl:TE} {Q:VK}
def qhe (h:X.K=K):SlR X (quy K):=h▸qs2
def qq9:qgY nt caps (qtE K tl) g tt te σ H Q↔tl σ H fun x H1=>∃a,x = .ref a∧(∃xs,SqT K H1 a xs)∧qcx (Itt K a) nt caps g tt te σ H1 Q:=Iff.rfl
end
end L2
namespace L2
open PySem PySem.Spec PyProof.Rows
section
variable {X:Cx} {pins:List (Addr×Obj)} {σ:St} {H:Hp} {s:Shared} {h':Heap} {K:PySem.W.Frag}
def Inv.turned2 {t':Nat} {e it:Addr} (I:Inv X pins σ H s) (k:∀b o,b≠e→b≠it→s.heap.get? b=some o→h'.get? b=some o) (fe:qj4 X pins H e) (fi:qj4 X pins H it):Inv X pins σ H { s with heap:=h',toks:=t' }:=by
 have nit:∀b u,H b=some u→b≠e∧b≠it:=fun b u q=>⟨fun z=>(by rw [z,fe.1] at q;cases q),fun z=>(by rw [z,fi.1] at q;cases q)⟩
 have nc:∀b:Addr,b∉[e,it]→b≠e∧b≠it:=fun b hc=>⟨fun z=>hc (by simp [z]),fun z=>hc (by simp [z])⟩
 refine I.step (g':=s.gens) (d':=s.drawn) (ch:=[e,it]) (fun b hb=>?_) (fun b o _ _ hc q _=>k b o (nc b hc).1 (nc b hc).2 q) (fun b o _ _ hc q _=>⟨o.slots,k b o (nc b hc).1 (nc b hc).2 q⟩) (fun _ _ _ _ n=>n)
   (fun b o hc q=>⟨o,k b o (nc b hc).1 (nc b hc).2 q⟩) (fun _ _ q=>q) (fun _ _ _ q=>q) (fun b ps q=>⟨#[],by rw [q];simp⟩) (fun m hm=>?_) (fun b u q=>?_) I.bare
 · rcases ybg.mp hb with rfl | hb
   · exact ⟨fe.2.2.2.1,fe.2.1,fe.2.2.2.2.1,fe.2.2.2.2.2⟩
   · obtain rfl:b=it:=by simpa using hb
     exact ⟨fi.2.2.2.1,fi.2.1,fi.2.2.2.2.1,fi.2.2.2.2.2⟩
 · obtain ⟨o,es,ep,ho,r⟩:=hm
   exact ⟨o,es,ep,k _ o (Ne.symm fe.2.1) (Ne.symm fi.2.1) ho,r⟩
 · have ne2:∀c,c=b∨H c=some (.own b)→c≠e∧c≠it:=fun c hc=>by
     rcases hc with z | z
     · rw [z];exact nit b u q
     · exact nit c _ z
   exact (I.hok b u q).stay (fun c v hc z=>k c v (ne2 c hc).1 (ne2 c hc).2 z) (fun _ z=>z) fun _ _ z=>z
def Ite (K:PySem.W.Frag) (a:Addr):It :=
 ⟨fun i H=>∃xs x,SqL K H a xs∧xs[i]?=some x,fun i H v H'=>∃t,v = .ref t∧H t=none∧∀xs x,SqL K H a xs→xs[i]?=some x→H'=upd H t (.tup [.int (i:Nat),x]),fun i H=>∃xs,SqL K H a xs∧xs.length≤i⟩
def qmW {P:Program} {w:World} {elts:List Expr} {x1:Nat} {pos:Pos} (a e it:Addr) (hei:e≠it):qnh P w K (.Tuple elts x1 pos) (Ite K a) [e,it] e (fun i h=>(∃old,IsEnum h e it i old)∧h.IsListIter it a i) where
 mem:=by simp
 obj:=fun i h st b hb=>by
   obtain ⟨⟨old,he⟩,o,e2,c,d⟩:=st
   rcases ybg.mp hb with rfl | hb
   · exact ⟨_,he,fun v z=>by
       have z':Data.fields _=Data.cell v:=z
       cases z'⟩
   · obtain rfl:b=it:=by simpa using hb
     exact ⟨o,e2,fun v z=>by rw [d] at z;cases z⟩
 keep:=fun i h h' st k=>by
   obtain ⟨⟨old,he⟩,st⟩:=st
   exact ⟨⟨old,k e (by simp) _ he⟩,st.at fun o q=>k it (by simp) o q⟩
 item:=by
   intro X hP hw hK hc i pins s σ H E I hf st hg
   subst hP hw hK
   obtain ⟨xs,x,hq,hx⟩:=hg
   obtain ⟨its,rv,p,hz⟩:=I.list hq
   obtain ⟨u,hu,ru⟩:=rv.get hx
   obtain ⟨⟨old,he⟩,hit⟩:=st
   have fe:=hf e (by simp)
   have fi:=hf it (by simp)
   have hel:e<s.heap.objs.size:=ydv he
   have hil:it<s.heap.objs.size:=by obtain ⟨_,q,_⟩:=hit;exact ydv q
   have fr:=I.hok.fresh (yba s.heap.objs.size)
   refine wpAny_pyNext_enum_item he hit p.isList (x:=u) (by simpa using hu) hei fun h' ho hit' hT hsz hk=>⟨_,rfl,?_⟩
   refine wpAny_letOwnedTupleGo_enum (s:={ s with heap:=h',toks:=s.toks+1 }) ho fun h2 he2 hs2=>?_
   have I1:Inv X pins σ (upd H s.heap.objs.size (.tup [.int (i:Nat),x])) { s with heap:=s.heap.push { cls := .type "tuple",data := .seq #[.int i s.toks,u] },toks:=s.toks+1 } :=
     I.laid (t':=s.toks+1) (fun b u e=>ydu _ e) (yba _) ⟨by simp;decide,[.int i s.toks,u],.cons ⟨_,rfl⟩ (.cons ru .nil),⟨_,ydt _ rfl,rfl,_,rfl⟩⟩
   have up:∀b,b<s.heap.objs.size→H b=none→upd H s.heap.objs.size (.tup [.int (i:Nat),x]) b=none:=fun b hb hn=>by
     rw [qay (ydx hb)]
     exact hn
   have I2:Inv X pins σ (upd H s.heap.objs.size (.tup [.int (i:Nat),x])) { s with heap:=h2,toks:=s.toks+1 } 
     := Inv.turned2 (s:={ s with heap:=s.heap.push { cls := .type "tuple",data := .seq #[.int i s.toks,u] },toks:=s.toks+1 }) (h':=h2) (t':=s.toks+1) (e:=e) (it:=it) I1 (fun b o b1 b2 q=>by
     rw [hs2.2 b b1]
     by_cases c:b=s.heap.objs.size
     · subst c
       have q0:(s.heap.push { cls := .type "tuple",data := .seq #[.int i s.toks,u] }).get? s.heap.objs.size=some { cls := .type "tuple",data := .seq #[.int i s.toks,u] }:=ydt _ rfl
       have q1:(s.heap.push { cls := .type "tuple",data := .seq #[.int i s.toks,u] }).get? s.heap.objs.size=some o:=q
       rw [q0] at q1
       cases q1
       exact hT
     · have q1:(s.heap.push { cls := .type "tuple",data := .seq #[.int i s.toks,u] }).get? b=some o:=q
       rw [ygg _ _ _ c] at q1
       exact hk b o b1 b2 q1) ⟨up e hel fe.1,fe.2⟩ ⟨up it hil fi.1,fi.2⟩
   refine ⟨.ref s.heap.objs.size,_,I2,rfl,⟨_,rfl,fr,fun ys y hy hyx=>?_⟩,⟨⟨_,he2⟩,hit'.at fun o q=>(hs2.2 it (Ne.symm hei)).trans q⟩,fun b hb=>?_⟩
   · rw [I.list_inj hy hq,hx] at hyx
     cases hyx
     rfl
   · rcases ybg.mp hb with rfl | hb
     · exact up _ hel fe.1
     · obtain rfl:b=it:=by simpa using hb
       exact up _ hil fi.1
 done:=by
   intro X hP hw hK hc i pins s σ H E I hf st hg
   subst hP hw hK
   obtain ⟨xs,hq,hx⟩:=hg
   obtain ⟨its,rv,p,hz⟩:=I.list hq
   obtain ⟨⟨old,he⟩,hit⟩:=st
   obtain ⟨f0,f1,f2,f3,f4,f5⟩:=hf it (by simp)
   have hl:=rv.length
   exact wpAny_pyNext_enum_end (I.ok.hd hc) he hit p.isList (by simp;omega) fun h' eb=>⟨rfl,I.turned (t':=s.toks) (fun b o hb e=>eb b o hb e) f0 f1 f3 f4 f5⟩
 self:=fun _ _ _ _ _ st h=>by
   obtain ⟨⟨old,he⟩,_⟩:=st
   exact wpAny_pyIter_enum he h
def qr9 (K:PySem.W.Frag) (ta:TA):TI:=fun σ H R=>ta σ H fun vs H1=>∃a xs,vs=[.ref a]∧SqL K H1 a xs∧R (Ite K a) H1
def qq1 {a:Expr} {elts:List Expr} {x1:Nat} {tp:Pos} {ta:TA} {p pos:Pos} (hK:X.K=K) (hg:Gl X "enumerate") (hm:X.mg "enumerate" = none) (ha:PA X [a] ta) (hs:starEach [a] X.env=[(false,eval a X.env)]:=by rfl):PI X (.Tuple elts x1 tp) (.Call (.Name "enumerate" p) [a] [] pos) (qr9 K ta):=by
 subst hK
 intro pins s σ H R I h
 refine Call_ (qda I hg hm PyProof.Rows.boot_enumerate (PyProof.Rows.callWith_type1 (thn (ha pos pins s σ H _ I h) fun us s1 ⟨vs,H1,I1,r1,q1⟩=>?_) hs rfl))
 obtain ⟨b,xs,rfl,hq,q⟩:=q1
 obtain ⟨u,rfl,ru⟩:=qb6 r1
 cases ru
 obtain ⟨its,rv,pl,hz⟩:=I1.list hq
 refine call_enumerate_list pl.isList fun h' he hi hsz hk=>?_
 have I2:Inv X pins σ H1 { s1 with heap:=h' }:=I1.kept (t':=s1.toks) hk
 refine wpAny_pyIter_enum he ⟨s1.heap.objs.size+1,[s1.heap.objs.size+1,s1.heap.objs.size],_,_,H1,rfl,I2,qmW b _ _ (Nat.succ_ne_self _),⟨⟨_,he⟩,hi⟩,fun c hb=>?_,q⟩
 rcases ybg.mp hb with rfl | hb
 · exact I1.fpOk (by omega) (I1.hok.fresh (by omega))
 · obtain rfl:c=s1.heap.objs.size:=by simpa using hb
   exact I1.fpOk (yba _) (I1.hok.fresh (yba _))
def qjA {K:PySem.W.Frag}:qlR 2 (qt0 K 2 (qox (qhp 0) (qox (qhp 1) qtZ))):=by
 intro v cs H Q h
 obtain ⟨a,xs,e,hq,hl,v0,r0,e0,v1,r1,e1,e2,q⟩:=h
 refine ⟨a,xs,e,hq,hl,v0,r0,e0,v1,r1,e1,e2,fun j u z=>?_,q⟩
 match j with
 | 0=>simp at z
 | 1=>simp at z
 | j+2=>simpa using z
end
section
variable {K:PySem.W.Frag} {g:TG} {σ:St} {H:Hp} {a:Addr} {nt:Nat} {caps:List Nat} {tt:TT} {te:TE} {Q:VK} {ta:TA}
def qp9:qgY nt caps (qr9 K ta) g tt te σ H Q↔ta σ H fun vs H1=>∃a xs,vs=[.ref a]∧SqL K H1 a xs∧qcx (Ite K a) nt caps g tt te σ H1 Q:=Iff.rfl
def qr8 {fs:List Nat} (c:Nat→Nat→Bool) (f:Nat→V) (hq:SqL K H a (nV fs)) (hz:fs.length≤1000)
   (hs:∀i x,fs[i]?=some x→∀(R:VK) (R':Hp→Prop) (H1:Hp) (t:Addr),qar H H1→H1 t=some (.tup [.int (i:Nat),.int (x:Nat)])→(c i x=true→R (f i) H1)→(c i x=false→R' H1) →
     g (.ref t) (qbT nt caps σ) H1 fun σ4 H4=>tt σ4 H4 fun b H5=>if b=true then te σ4 H5 R else R' H5)
   (hd:∀H1 p,qar H H1→H1 p=none→Q (.ref p) (upd H1 p (.lst (((List.range fs.length).filter fun i=>c i (fs.getD i 0)).map f)))):qcx (Ite K a) nt caps g tt te σ H Q:=by
 refine ⟨fun i m ys H1=>m=fs.length-i∧i≤fs.length∧qar H H1∧ys=((List.range i).filter fun i=>c i (fs.getD i 0)).map f,⟨_,rfl,ybz _,qar.refl _,rfl⟩,?_⟩
 rintro i m ys H2 ⟨rfl,hi,s2,rfl⟩
 have hq2:=s2.seq hq
 have hy:(((List.range i).filter fun i=>c i (fs.getD i 0)).map f).length≤i:=by
   rw [ycd]
   exact ydc (ygc _ _) (by simp)
 by_cases hlt:i<fs.length
 · have hx:fs[i]?=some fs[i]:=ycj hlt
   have hd0:fs.getD i 0=fs[i]:=by rw [yci,hx];rfl
   refine .inr ⟨⟨nV fs,_,hq2,qkC hx⟩,qcD (by omega),fun v H3 y=>?_⟩
   obtain ⟨t,rfl,ht,y⟩:=y
   have e3:=y _ _ hq2 (qkC hx)
   have s3:qar H2 H3:=by rw [e3];exact qar.new ht
   refine hs i fs[i] hx _ _ H3 t (s2.trans s3) (by rw [e3,qaf]) (fun hc=>⟨fs.length-(i+1),by omega,rfl,hlt,s2.trans s3,?_⟩) fun hc=>⟨fs.length-(i+1),by omega,rfl,hlt,s2.trans s3,?_⟩
   · rw [yds,yax,ycu,yce,hd0,hc,List.filter_nil];rfl
   · rw [yds,yax,ycu,yce,hd0,hc,List.filter_nil];exact (yed _).symm
 · obtain rfl:i=fs.length:=by omega
   exact .inl ⟨⟨nV fs,hq2,by rw [qa1];exact yba _⟩,qaq (by omega),fun p hp=>hd H2 p s2 hp⟩
end
section
variable {g:TG} {tb:TS} {D:qf2} {σ:St} {H:Hp}
def qrY {l:Int} {lo n:Nat} (e:l=(lo:Nat)) (Pv:Nat→St→Hp→Prop) (h0:Pv 0 σ H)
   (hs:∀i σ H,i<n→Pv i σ H→∀N:St→Hp→Prop,(∀σ' H',Pv (i+1) σ' H'→N σ' H')→g (.int ((lo+i:Nat))) σ H fun σ2 H2=>tb { D with nx:=N,ct:=N,bk:=D.nx } σ2 H2) (hd:∀σ H,Pv n σ H→D.nx σ H):qc3 (Itr l n) g tb D σ H :=
 qrU Pv h0 (fun i σ H hi p=>by
   rw [e,show ((lo:Nat):Int)+(i:Nat)=((lo+i:Nat):Int) by omega]
   exact hs i σ H hi p _ fun _ _ q=>q) hd
def qgD (H0 H:Hp) (p:Addr) (LL:List (List Nat)) (ps:List Addr):Prop:=H0 p=none∧H p=some (.lst (ps.map V.ref))∧ps.length=LL.length∧∀(j:Nat) (q:Addr) (L:List Nat),ps[j]?=some q→LL[j]?=some L→H0 q=none∧H q=some (.lst (nV L))
def qgD.mono {H0 H H':Hp} {p:Addr} {LL:List (List Nat)} {ps:List Addr} (h:qgD H0 H p LL ps) (s:qar H H'):qgD H0 H' p LL ps :=
 ⟨h.1,s _ _ h.2.1,h.2.2.1,fun j q L h1 h2=>⟨(h.2.2.2 j q L h1 h2).1,s _ _ (h.2.2.2 j q L h1 h2).2⟩⟩
def qgD.back {H0 H1 H:Hp} {p:Addr} {LL:List (List Nat)} {ps:List Addr} (h:qgD H1 H p LL ps) (s:qar H0 H1):qgD H0 H p LL ps :=
 ⟨qau s h.1,h.2.1,h.2.2.1,fun j q L h1 h2=>⟨qau s (h.2.2.2 j q L h1 h2).1,(h.2.2.2 j q L h1 h2).2⟩⟩
def qgD.snoc {H0 H:Hp} {p r:Addr} {LL:List (List Nat)} {ps:List Addr} {L:List Nat} (h:qgD H0 H p LL ps) (hr:H0 r=none) (hL:H r=some (.lst (nV L))) (hne:∀q∈ps,q≠p) (hrp:r≠p) :
   qgD H0 (upd H p (.lst (ps.map V.ref++[.ref r]))) p (LL++[L]) (ps++[r]):=by
 refine ⟨h.1,by rw [qaf,ycu];rfl,by rw [ydq,ydq,h.2.2.1];rfl,fun j q M h1 h2=>?_⟩
 have hj:j<ps.length∨j=ps.length:=by
   have:=(ycl.mp h1).1
   rw [ydq] at this
   simp at this
   omega
 rcases hj with hj | hj
 · rw [yfe hj] at h1
   rw [yfe (by rw [←h.2.2.1];exact hj)] at h2
   have:=h.2.2.2 j q M h1 h2
   rw [qay (hne q (yck h1))]
   exact this
 · subst hj
   rw [yfc (yba _),ygh] at h1
   rw [h.2.2.1,yfc (yba _),ygh] at h2
   cases h1
   cases h2
   rw [qay hrp]
   exact ⟨hr,hL⟩
def qgD.at {H0 H:Hp} {p:Addr} {LL:List (List Nat)} {ps:List Addr} (h:qgD H0 H p LL ps) {j:Nat} (hj:j<ps.length):∃(q:Addr) (L:List Nat),ps[j]?=some q∧LL[j]?=some L∧L∈LL∧H q=some (.lst (nV L)):=by
 have e1:=ycj hj
 have e2:LL[j]?=some (LL[j]'(by rw [←h.2.2.1];exact hj)):=ycj _
 exact ⟨_,_,e1,e2,yck e2,(h.2.2.2 j _ _ e1 e2).2⟩
def qg4 {ps:List Addr} {i:Nat} {x:V} (h:(ps.map V.ref)[i]?=some x):∃q,ps[i]?=some q∧x = .ref q:=by
 rw [yco] at h
 cases e:ps[i]? with
 | none=>rw [e] at h;cases h
 | some q=>rw [e] at h;cases h;exact ⟨q,rfl,rfl⟩
end
end L2
namespace L2
open PySem PySem.Spec PyProof.Rows
def rkV (cs:List Nat) (v:Nat):List Nat:=(List.range cs.length).filter fun i=>decide (cs.getD i 0=v)
def rkd (cs:List Nat):List (List Nat):=(sd cs).reverse.map (rkV cs)
def qdo {cs:List Nat} {v i:Nat}:i∈rkV cs v↔i<cs.length∧cs.getD i 0=v:=by
 unfold rkV
 rw [ybb,ybk,decide_eq_true_eq]
def qn5 (cs:List Nat) (v:Nat):(rkV cs v).Pairwise (· < ·):=ybj.sublist ybd
def qfv {cs L:List Nat}:L∈rkd cs↔∃v∈cs,L=rkV cs v:=by
 unfold rkd
 rw [ybt]
 constructor
 · rintro ⟨v,hv,rfl⟩
   exact ⟨v,qgi.mp (ybs.mp hv),rfl⟩
 · rintro ⟨v,hv,rfl⟩
   exact ⟨v,ybs.mpr (qgi.mpr hv),rfl⟩
def qgx (cs:List Nat):(rkd cs).Pairwise fun L M=>∀x∈L,∀y∈M,cs.getD y 0<cs.getD x 0:=by
 unfold rkd
 rw [ybv]
 have:(sd cs).reverse.Pairwise (· > ·):=ybu.mpr (qhm cs)
 refine this.imp fun {v u} h x hx y hy=>?_
 rw [(qdo.mp hx).2,(qdo.mp hy).2]
 exact h
def qr3 {cs L:List Nat} (h:L∈rkd cs):L≠[]:=by
 obtain ⟨v,hv,rfl⟩:=qfv.mp h
 obtain ⟨i,hi,e⟩:=ygi.mp hv
 have:i∈rkV cs v:=qdo.mpr ⟨hi,by rw [yci,ycj hi];exact e⟩
 exact List.ne_nil_of_mem this
def qoo {cs L:List Nat} (h:L∈rkd cs):L.Pairwise (· < ·):=by
 obtain ⟨v,hv,rfl⟩:=qfv.mp h
 exact qn5 _ _
def qjC {cs L:List Nat} (h:L∈rkd cs) {x y:Nat} (hx:x∈L) (hy:y∈L):cs.getD x 0=cs.getD y 0:=by
 obtain ⟨v,hv,rfl⟩:=qfv.mp h
 rw [(qdo.mp hx).2,(qdo.mp hy).2]
def qpj {cs L:List Nat} (h:L∈rkd cs) {x:Nat} (hx:x∈L):x<cs.length:=by
 obtain ⟨v,hv,rfl⟩:=qfv.mp h
 exact (qdo.mp hx).1
def qc2 {cs:List Nat} {x:Nat}:x∈(rkd cs).flatten↔x<cs.length:=by
 rw [ygj]
 constructor
 · rintro ⟨L,h1,h2⟩
   exact qpj h1 h2
 · intro h
   refine ⟨rkV cs cs[x],qfv.mpr ⟨cs[x],ydp h,rfl⟩,qdo.mpr ⟨h,?_⟩⟩
   rw [yci,ycj h]
   rfl
def qfT (cs:List Nat):(rkd cs).flatten.Nodup:=by
 unfold List.Nodup
 rw [ygk]
 refine ⟨fun L hL=>(qoo hL).imp fun h=>ydx h,(qgx cs).imp fun h x hx y hy e=>?_⟩
 have:=h x hx y hy
 rw [e] at this
 exact absurd this (yen _)
def qqO (cs:List Nat):(rkd cs).length≤cs.length:=by
 unfold rkd
 rw [ycd,ygl]
 exact qof cs (yba _)
def qia (cs:List Nat):(rkd cs).flatten.length≤cs.length:=Fam.nodup_le cs.length _ (qfT cs) fun x hx=>qc2.mp hx
def qeh {m k:Nat} {f:Nat→Bool} (h:k<m):(Fam.trns m f).getD k 0=Fam.trn m f k:=by
 unfold Fam.trns
 rw [yci,yco,ycp h]
 rfl
def qbc (m:Nat) (f:Nat→Bool):(Fam.trns m f).length=m:=by simp [Fam.trns]
def qiq (m:Nat) (f:Nat→Bool) (x y:Nat):Prop:=∀x' y',x'<y'→y'<m→(x'<x∨x'=x∧y'<y)→Fam.part m f x' y'=none∨Fam.part m f y' x'=none
def qiq.all {m:Nat} {f:Nat→Bool} (h:qiq m f m 0) {x y:Nat} (hx:x<m) (hy:y<m) (hxy:x≠y):Fam.part m f x y=none∨Fam.part m f y x=none:=by
 rcases Nat.lt_or_gt_of_ne hxy with z | z
 · exact h x y z hy (.inl hx)
 · exact (h y x z hx (.inl hy)).symm
end L2
namespace L2
open PySem PySem.Spec PyProof.Rows
section
variable {m:Nat} {o cs cs':List Nat}
end
def qc0 {X:Cx} {K:PySem.W.Frag} {tg l:Expr} {tl:TE} (hK:X.K=K) (hl:PE X l tl):PI X tg l (qnP K tl):=hK▸qaJ hl
end L2
namespace L2
open PySem PySem.Spec PyProof.Rows
section
variable {m:Nat} {f:Nat→Bool}
def ql5 (cs:List Nat):Fam.Ord cs.length (rkd cs).flatten:=by
 refine ⟨?_,fun x hx=>qc2.mp hx,qfT cs⟩
 have h1:=qia cs
 have h2:=Fam.len_sub (List.range cs.length) (rkd cs).flatten ycc fun x hx=>qc2.mpr (ybk.mp hx)
 rw [ygm] at h2
 omega
def qkj (cs:List Nat):(rkd cs).flatten.Pairwise fun x y=>cs.getD y 0≤cs.getD x 0:=by
 rw [ygk]
 refine ⟨fun L hL=>List.pairwise_iff_forall_sublist.mpr fun {x y} s=>?_,(qgx cs).imp fun h x hx y hy=>ydb (h x hx y hy)⟩
 have hx:x∈L:=s.subset (by simp)
 have hy:y∈L:=s.subset (by simp)
 exact yeh (qjC hL hy hx)
def Gvn (m:Nat) (LL:List (List Nat)) (F N:List Nat):Prop:=N.length=m∧∀(j:Nat) (L:List Nat) (v:Nat),LL[j]?=some L→F[j]?=some v→∀k∈L,N.getD k 0=v
def qo2 {cs F N N':List Nat} (hF:F.length=(rkd cs).length) (h:Gvn cs.length (rkd cs) F N) (h':Gvn cs.length (rkd cs) F N'):N=N':=by
 refine yej (h.1.trans h'.1.symm) fun k hk hk'=>?_
 have hm:k<cs.length:=by have:=h.1;omega
 obtain ⟨L,hL,hk2⟩:=ygj.mp (qc2.mpr hm)
 obtain ⟨j,hj,e⟩:=ygi.mp hL
 have e1:(rkd cs)[j]?=some L:=by rw [ycj hj,e]
 have e2:=ycj (show j<F.length by omega)
 have a:=h.2 j L _ e1 e2 k hk2
 have b:=h'.2 j L _ e1 e2 k hk2
 rw [yci,ycj hk] at a
 rw [yci,ycj hk'] at b
 exact a.trans b.symm
def qrC (hm:m≤5) (u:Fam.Up m f) (h:qiq m f m 0):∃(F N:List Nat) (b:Nat),F.length=(rkd (Fam.trns m f)).length∧F.Pairwise (· > ·)∧(∀x∈F,x≤5)∧Gvn m (rkd (Fam.trns m f)) F N∧∀s,s<2^m→f s=decide (b≤Fam.wt N s):=by
 have h8:m≤8:=by omega
 have ho:=ql5 (Fam.trns m f)
 rw [qbc] at ho
 have hf:=qkj (Fam.trns m f)
 generalize eo:(rkd (Fam.trns m f)).flatten=o at ho hf
 have hl:o.length=m:=ho.1
 have fall:∀i j,i<j→j<m→Fam.trn m f (Fam.at' o j)≤Fam.trn m f (Fam.at' o i):=fun i j hij hj=>by
   have:=ycm.mp hf i j (by omega) (by omega) hij
   have e:∀k (hk:k<o.length),o[k]=Fam.at' o k:=fun k hk=>by
     unfold Fam.at'
     rw [yci,ycj hk];rfl
   rw [e i (by omega),e j (by omega),qeh (ho.at_lt hj),qeh (ho.at_lt (show i<m by omega))] at this
   exact this
 have ug:Fam.Up m fun a=>f (Fam.ex o a):=fun a b ha s hb=>u _ (Fam.ex o b) (Fam.ex_lt ho ha) ((Fam.ex_sub h8 ho ha (Fam.sub_lt s ha)).mpr s) hb
 have rg:Fam.Reg m fun a=>f (Fam.ex o a):=fun i j hij hj=>by
   refine Fam.part_ex_none (g:=f) h8 ho (fun a _=>rfl) hj (by omega) ?_
   have hne:Fam.at' o j≠Fam.at' o i:=fun z=>by have:=ho.inj hj (by omega) z;omega
   exact (Fam.part_turns u hne (ho.at_lt hj) (ho.at_lt (by omega)) (h.all (ho.at_lt hj) (ho.at_lt (by omega)) hne)).mpr (fall i j hij hj)
 obtain ⟨W,b,w5,wo,wf⟩:=Fam.reg_wt hm ug rg
 have te:∀k,k<m→Fam.trn m (fun a=>f (Fam.ex o a)) k=Fam.trn m f (Fam.at' o k):=fun k hk=>(Fam.trn_ex (g:=f) h8 ho (fun a _=>rfl) hk).symm
 -- by names
 let N:List Nat:=(List.range m).map fun x=>W.getD (o.idxOf x) 0
 have Ne:∀k,k<m→N.getD (Fam.at' o k) 0=W.getD k 0:=fun k hk=>by
   show ((List.range m).map fun x=>W.getD (o.idxOf x) 0).getD _ 0=_
   rw [yci,yco,ycp (ho.at_lt hk)]
   show W.getD (o.idxOf (Fam.at' o k)) 0=_
   rw [Fam.idx_at ho hk]
 have No:∀x y,x<m→y<m→(Fam.trn m f y<Fam.trn m f x↔N.getD y 0<N.getD x 0):=fun x y hx hy=>by
   obtain ⟨i,hi,rfl⟩:=ho.sur hx
   obtain ⟨j,hj,rfl⟩:=ho.sur hy
   rw [Ne i hi,Ne j hj,←te i hi,←te j hj]
   exact wo i j hi hj
 have N5:∀x,x<m→N.getD x 0≤5:=fun x hx=>by
   obtain ⟨i,hi,rfl⟩:=ho.sur hx
   rw [Ne i hi]
   exact w5 i hi
 have lr:∀{L:List Nat},L∈rkd (Fam.trns m f)→∀{x:Nat},x∈L→x<m:=fun hL x hx=>by
   have:=qpj hL hx
   rwa [qbc] at this
 have hd:∀{L:List Nat},L∈rkd (Fam.trns m f)→L.headD 0∈L:=fun {L} hL=>by
   cases L with
   | nil=>exact absurd rfl (qr3 hL)
   | cons a L=>exact ybe
 refine ⟨(rkd (Fam.trns m f)).map fun L=>N.getD (L.headD 0) 0,N,b,ycd ..,?_,fun x hx=>?_,⟨by simp [N],fun j L v hL hv k hk=>?_⟩,fun s hs=>?_⟩
 · rw [ybv]
   refine List.Pairwise.imp_of_mem (fun {L M} hL hM z=>?_) (qgx (Fam.trns m f))
   have:=z _ (hd hL) _ (hd hM)
   rw [qeh (lr hL (hd hL)),qeh (lr hM (hd hM))] at this
   exact (No _ _ (lr hL (hd hL)) (lr hM (hd hM))).mp this
 · obtain ⟨L,hL,rfl⟩:=ybt.mp hx
   exact N5 _ (lr hL (hd hL))
 · rw [yco,hL] at hv
   cases hv
   have mL:=yck hL
   have e:=qjC mL hk (hd mL)
   rw [qeh (lr mL hk),qeh (lr mL (hd mL))] at e
   have n1:=No _ _ (lr mL hk) (lr mL (hd mL))
   have n2:=No _ _ (lr mL (hd mL)) (lr mL hk)
   show N.getD k 0=N.getD (L.headD 0) 0
   rw [e] at n1 n2
   have:=yen (Fam.trn m f (L.headD 0))
   omega
 · obtain ⟨a,ha,rfl⟩:∃a,a<2^m∧Fam.ex o a=s:=⟨_,Fam.ex_lt (Fam.back_ord ho) hs,Fam.ex_back h8 ho hs⟩
   rw [Fam.wt_ex h8 ho Ne ha]
   exact wf a ha
def fl:Nat→Nat→List (List Nat)
 | 0,_=>[[]]
 | n+1,M=>(List.range M).flatMap fun a=>(fl n a).map (a::·)
def qo1:∀{F:List Nat} {M:Nat},F.Pairwise (· > ·)→(∀x∈F,x<M)→F∈fl F.length M
 | [],_,_,_=>by simp [fl]
 | a::F,M,hp,hl=>by
   have hp':=ybf.mp hp
   exact ycz.mpr ⟨a,ybk.mpr (hl a ybe),ybt.mpr ⟨F,qo1 hp'.2 fun x hx=>hp'.1 x hx,rfl⟩⟩
def qga:∀{n M:Nat} {F:List Nat},F∈fl n M→F.length=n
 | 0,_,F,h=>by
   have:F=[]:=by simpa [fl] using h
   rw [this];rfl
 | n+1,M,F,h=>by
   obtain ⟨a,_,h1⟩:=ycz.mp h
   obtain ⟨G,h2,rfl⟩:=ybt.mp h1
   rw [ycb,qga h2]
def qlg {α β:Type} {g:α→List β} {c:Nat}:∀{L:List α},(∀a∈L,(g a).length≤c)→(L.flatMap g).length≤L.length*c
 | [],_=>by simp
 | a::L,h=>by
   have h1:=qlg (L:=L) fun x hx=>h x (ybh _ hx)
   have h2:=h a ybe
   rw [List.flatMap_cons,ydq,ycb,yfo]
   omega
def qo0:∀{n M:Nat},M≤6→(fl n M).length≤6^n
 | 0,_,_=>by simp [fl]
 | n+1,M,h=>by
   have:=qlg (L:=List.range M) (g:=fun a=>(fl n a).map (a::·)) (c:=6^n) fun a ha=>by
     rw [ycd]
     exact qo0 (by have:=ybk.mp ha;omega)
   rw [ygm] at this
   have e:(fl (n+1) M).length≤M*6^n:=this
   refine ydc e ?_
   rw [yal,yfp (6^n)]
   exact ygn _ h
end
end L2
namespace L2
open PySem PySem.Spec PyProof.Rows
section
variable {X:Cx}
def qkW:qb7 X (.builtin "len") (fun xs H Q=>∃p kvs,xs=[.ref p]∧H p=some (.dK kvs)∧Q (.int kvs.length) H):=by
 intro pins s σ H xs us Q I r h
 obtain ⟨p,kvs,rfl,hH,q⟩:=h
 obtain ⟨u,rfl,ru⟩:=qb6 r
 cases ru
 obtain ⟨z,y,vs,kv,d⟩:=I.hok p _ hH
 have hl:kvs.length=vs.length:=Paired.length kv
 have zz:sizeLine<2^63:=by decide
 refine call_len_dict y d (by omega) ⟨.int _,H,I.tok _,⟨_,by rw [hl]⟩,q⟩
end
end L2
namespace Fam
end Fam
namespace L2
open PySem PySem.Spec PyProof.Rows
section
variable {K:PySem.W.Frag} {g:TG} {tb:TS} {D:qf2} {σ:L2.St} {H:Hp} {a:Addr} {ta:TA}
end
inductive Pap (H:Hp) (fs gs:List Nat) (m:Nat):Nat→Nat→Nat→Addr→Prop
 | one {n ti to:Nat} {t:Addr} {j b:Nat} (h:H t=some (.tup [.str "one",.int (j:Nat)])) (h1:fs[j]?=some b) (h2:Fam.sub b ti):Pap H fs gs m (n+1) ti to t
 | other {n ti to:Nat} {t:Addr} {j b:Nat} (h:H t=some (.tup [.str "other",.int (j:Nat)])) (h1:gs[j]?=some b) (h2:Fam.sub b to):Pap H fs gs m (n+1) ti to t
 | name {n ti to:Nat} {t u v:Addr} {k:Nat} (h:H t=some (.tup [.str "name",.int (k:Nat),.ref u,.ref v])) (hk:k<m) (h1:ti.testBit k=false) (h2:to.testBit k=false) (p1:Pap H fs gs m n (ti|||2^k) to u) (p2:Pap H fs gs m n ti (to|||2^k) v):Pap H fs gs m (n+1) ti to t
end L2
namespace L2
open PySem PySem.Spec PyProof.Rows
def qeF {prog:Program} {w:World} {A:Around} {E:Value→Shared→Prop} {s:Shared} {id:String} {b:Builtin} {args:List Value} {kw:List (Str×Value)} {Q:Value→Shared→Prop} (hk:builtinKind id=none) (hp:plainId id=true) (hb:entryFor table id=some b) (ha:argsOk id ⟨args,kw⟩)
   (hc:wpAny (model prog w) A.in1 (b ⟨args,kw⟩) (fun fin s'=>match fin with
     | .done f=>(match (Except.ok f:Result) with | .ok (.ret v)=>Q v s' | .ok _=>False | .error e=>E e s')
     | .again c=>c.quiet=true∧codeAny (model prog w) A c (fun r s'=>match r with | .ok (.ret v)=>Q v s' | .ok _=>False | .error e=>E e s') s') E s) :
   wpAny (model prog w) A (call (.builtin id) args kw) Q E s:=by
 refine wpAny_call (codeAny_call_builtin hp hb ?_)
 simp only [checkBuiltinCall,hk]
 cases hsig:Manifest.signature? id with
 | none=>exact wpAny_pure hc
 | some sig =>
   have ha':Bind.checkArgs id sig ⟨args,kw⟩=pure ():=by simpa only [argsOk,hsig] using ha
   simp only [ha'];exact wpAny_pure hc
def qm2 (a d:Value):argsOk "max" ⟨[a],[("default",d)]⟩:=by unfold argsOk;kernel_rfl
section
variable {prog:Program} {w:World} {A:Around} {R:Result→Shared→Prop} {I:Addr} {fp wr:List Addr} {n:Nat} {P:Nat→Value→Prop} {St:Nat→Heap→Prop} {kw:List (Str×Value)}
def qrN (W:Walks prog w A.in1 I fp wr n P St) (bt:Nat→Nat→Bool) (hcmp:CmpOf prog w A.in1 .Gt P bt) (S:Addr) (hSf:S∉fp) :
   ∀(k j:Nat) (s:Shared) (vb:Value) (c:Nat),n-(j+1)=k→j+1≤n→St (j+1) s.heap→P (argBest bt j) vb →
   s.heap.get? S=some { cls := .type "list",dict:=none,data := .seq #[vb,vb] c,slots:=#[] } →
   (∀v h' tk,P (argBest bt (n-1)) v→(∀b o,b∉wr→b≠S→s.heap.get? b=some o→h'.get? b=some o)→R (.ok (.ret v)) { s with heap:=h',toks:=tk }) →
   codeAny (model prog w) A (.builtin "max.loop" ⟨[.ref I,.none,.ref S],kw⟩) R s:=by
 have wS:S∉wr:=fun z=>hSf (W.sub _ z)
 have nm:(toString "max" ++ toString ".loop" : String) = "max.loop" := by decide
 intro k
 induction k with
 | zero =>
   intro j s vb c hk hj hst hPb hS hR
   have jn:j+1=n:=by omega
   refine codeAny_builtin F.entry_max_loop ?_;rw [Around.under_plainId F.plain_max_loop _]
   show wpAny _ A.in1 (seqItems? (.ref S) >>= _) _ _ s;refine wpAny_bind (wpAny_seqItems hS rfl ?_)
   show wpAny _ A.in1 (tryCatch (pyNext (.ref I)) _ >>= _) _ _ s;refine wpAny_bind (wpAny_tryCatch (W.done s _ _ (jn▸hst) fun h1 tk kp=>?_))
   have gS:=kp S _ wS hS
   show wpAny _ A.in1 (updateSeq S (fun _=>#[]) >>= _) _ _ _;refine wpAny_bind ?_
   refine wpAny_updateSeq gS rfl (wpAny_bind (wpAny_letGo (wpAny_pure (hR vb _ tk (by rw [←jn];exact hPb) fun b o b1 b2 e=>?_))))
   exact (yeg _ _ (Ne.symm b2)).trans (kp b o b1 e)
 | succ k ih =>
   intro j s vb c hk hj hst hPb hS hR
   have jn:j+1<n:=by omega
   refine codeAny_builtin F.entry_max_loop ?_;rw [Around.under_plainId F.plain_max_loop _]
   show wpAny _ A.in1 (seqItems? (.ref S) >>= _) _ _ s;refine wpAny_bind (wpAny_seqItems hS rfl ?_)
   show wpAny _ A.in1 (tryCatch (pyNext (.ref I)) _ >>= _) _ _ s;refine wpAny_bind (wpAny_tryCatch (W.item (j+1) s _ _ jn hst fun v h1 tk hP st1 kp=>?_))
   have gS:=kp S _ wS hS
   show wpAny _ A.in1 (tryCatch (holding [v,v] (richCompare .Gt v vb >>= _)) _ >>= _) _ _ _;refine wpAny_bind (wpAny_tryCatch (wpAny_holding (wpAny_bind (hcmp (j+1) (argBest bt j) v vb _ _ _ hP hPb ?_))))
   refine wpAny_bind (wpAny_holding (wpAny_truthy_bool (wpAny_bind (wpAny_letGo (wpAny_pure ?_)))))
   cases hb:bt (j+1) (argBest bt j) with
   | true =>
     rw [if_pos rfl];refine wpAny_bind ?_
     refine wpAny_updateSeq gS rfl (wpAny_bind (wpAny_letGo ?_));rw [nm]
     refine wpAny_pure ⟨plainId_quiet F.plain_max_loop _,ih (j+1) _ v _ (by omega) jn (W.frame _ _ _ st1 fun b hf o e=>?_) (by unfold argBest;rw [hb,if_pos rfl];exact hP) (ydr _ gS rfl) fun v' h2 tk2 hP2 kp2=>?_⟩
     · exact (yeg _ _ (fun z:S=b=>hSf (z▸hf))).trans e
     · exact hR v' h2 tk2 hP2 fun b o b1 b2 e=>kp2 b o b1 b2 ((yeg _ _ (Ne.symm b2)).trans (kp b o b1 e))
   | false =>
     rw [if_neg (by decide)];refine wpAny_bind (wpAny_letGo ?_);rw [nm]
     refine wpAny_pure ⟨plainId_quiet F.plain_max_loop _,ih (j+1) _ vb c (by omega) jn st1 (by unfold argBest;rw [hb,if_neg (by decide)];exact hPb) gS fun v' h2 tk2 hP2 kp2=>?_⟩
     exact hR v' h2 tk2 hP2 fun b o b1 b2 e=>kp2 b o b1 b2 (kp b o b1 e)
def ql7 (W:Walks prog w A.in1 I fp wr n P St) (bt:Nat→Nat→Bool) (hcmp:CmpOf prog w A.in1 .Gt P bt) (S:Addr) (hSf:S∉fp) {d:Value} {s:Shared} {c:Nat} (hst:St 0 s.heap)
   (hS:s.heap.get? S=some { cls := .type "list",dict:=none,data := .seq #[] c,slots:=#[] })
   (hR:∀v h' tk,(n=0∧v=d∨0<n∧P (argBest bt (n-1)) v)→(∀b o,b∉wr→b≠S→s.heap.get? b=some o→h'.get? b=some o)→R (.ok (.ret v)) { s with heap:=h',toks:=tk }) :
   codeAny (model prog w) A (.builtin "max.loop" ⟨[.ref I,.none,.ref S],[("default",d)]⟩) R s:=by
 have wS:S∉wr:=fun z=>hSf (W.sub _ z)
 have nm:(toString "max" ++ toString ".loop" : String) = "max.loop" := by decide
 refine codeAny_builtin F.entry_max_loop ?_;rw [Around.under_plainId F.plain_max_loop _]
 show wpAny _ A.in1 (seqItems? (.ref S) >>= _) _ _ s;refine wpAny_bind (wpAny_seqItems hS rfl ?_)
 rcases yde n with hn | hn
 · show wpAny _ A.in1 (tryCatch (pyNext (.ref I)) _ >>= _) _ _ s;refine wpAny_bind (wpAny_tryCatch (W.done s _ _ (hn.symm▸hst) fun h1 tk kp=>?_))
   show wpAny _ A.in1 (rule _ >>= _) _ _ _;refine wpAny_bind (wpAny_rule (wpAny_pure (hR d h1 tk (.inl ⟨hn,rfl⟩) fun b o b1 b2 e=>kp b o b1 e)))
 · show wpAny _ A.in1 (tryCatch (pyNext (.ref I)) _ >>= _) _ _ s;refine wpAny_bind (wpAny_tryCatch (W.item 0 s _ _ hn hst fun v h1 tk hP st1 kp=>?_))
   have gS:=kp S _ wS hS
   show wpAny _ A.in1 (updateSeq S (fun _=>#[v,v]) >>= _) _ _ _;refine wpAny_bind ?_
   refine wpAny_updateSeq gS rfl ?_;rw [nm]
   refine wpAny_pure ⟨plainId_quiet F.plain_max_loop _,qrN W bt hcmp S hSf _ 0 _ v _ rfl hn (W.frame _ _ _ st1 fun b hf o e=>?_) hP (ydr _ gS rfl) fun v' h2 tk2 hP2 kp2=>?_⟩
   · exact (yeg _ _ (fun z:S=b=>hSf (z▸hf))).trans e
   · exact hR v' h2 tk2 (.inr ⟨hn,hP2⟩) fun b o b1 b2 e=>kp2 b o b1 b2 ((yeg _ _ (Ne.symm b2)).trans (kp b o b1 e))
end
section
variable {prog:Program} {w:World} {A:Around} {E:Value→Shared→Prop} {s:Shared}
def qnn {l:Addr} {vs:List Value} {ns:List Int} {d:Value} {Q:Value→Shared→Prop} (hh:A.handled=none) (hl:s.heap.IsList l vs.toArray) (hi:IntsAre vs ns)
   (h:∀v h' tk,(ns=[]∧v=d∨∃M t,v = .int M t∧M∈ns∧∀a∈ns,a≤M)→(∀b o,s.heap.get? b=some o→h'.get? b=some o)→Q v { s with heap:=h',toks:=tk }) :
   wpAny (model prog w) A (call (.builtin "max") [.ref l] [("default",d)]) Q E s:=by
 have nm:(toString "max" ++ toString ".loop" : String) = "max.loop" := by decide
 obtain ⟨xs,e⟩:=hi.allInts.items
 have hns:ns=xs.toList.map (·.1):=by rw [←hi.numsOf,←nums_intItems,←e]
 rw [e] at hl
 refine qeF F.kind_max F.plain_max F.entry_max (qm2 _ _) ?_
 show wpAny _ A.in1 (Builtin.Builtins.bindParams "max" ["key", "default"] 0 ⟨[],[("default",d)]⟩ >>= _) _ _ s
 refine wpAny_bind (wpAny_of_eq (show Builtin.Builtins.bindParams "max" ["key", "default"] 0 ⟨[],[("default",d)]⟩=pure [none,some d] from rfl) (wpAny_bind (wpAny_pure ?_)))
 refine wpAny_bind (iter_intList hl fun s2 e2 st hfp hlI=>?_)
 have hSf:s2.heap.objs.size∉[s.heap.objs.size,l]:=fun hm=>yen _ (hfp _ hm)
 have W:=Walks.list (prog:=prog) (w:=w) (A:=A.in1) hh s.heap.objs.size l hlI (intItems xs)
 refine wpAny_bind (wpAny_newObj_type ?_);rw [nm]
 refine wpAny_pure ⟨plainId_quiet F.plain_max_loop _,ql7 W _ (CmpOf.ints_gt (numAt xs) (fun _ _=>intItems_at)) s2.heap.objs.size hSf (d:=d) (W.frame _ _ _ st fun b _ o q=>ydu _ q) (ydt _ rfl) fun v h1 tk hP kp=>?_⟩
 subst e2
 refine h v h1 tk ?_ (old_kept fun b o b1 q=>kp b o b1 (ydx (ydv q)) (ydu _ q))
 have sz:(intItems xs).size=xs.size:=by simp [intItems]
 rcases hP with ⟨h0,rfl⟩ | ⟨h0,hP⟩
 · refine .inl ⟨?_,rfl⟩
   rw [hns,ygo,←yec,ydh];omega
 · obtain ⟨t,rfl⟩:=intItems_at hP
   obtain ⟨h1,h2⟩:=argBest_gt (numAt xs) ((intItems xs).size-1)
   refine .inr ⟨_,t,rfl,?_,fun a ha=>?_⟩
   · rw [hns,numAt_eq];exact getD_mem (by rw [ycd,ydh];omega)
   · rw [hns] at ha;obtain ⟨j,hj,rfl⟩:=mem_getD ha
     rw [ycd,ydh] at hj;rw [←numAt_eq];exact h2 j (by omega)
end
def qmg (a d:Value):argsOk "min" ⟨[a],[("default",d)]⟩:=by unfold argsOk;kernel_rfl
section
variable {prog:Program} {w:World} {A:Around} {R:Result→Shared→Prop} {I:Addr} {fp wr:List Addr} {n:Nat} {P:Nat→Value→Prop} {St:Nat→Heap→Prop} {kw:List (Str×Value)}
def qsN (W:Walks prog w A.in1 I fp wr n P St) (bt:Nat→Nat→Bool) (hcmp:CmpOf prog w A.in1 .Lt P bt) (S:Addr) (hSf:S∉fp) :
   ∀(k j:Nat) (s:Shared) (vb:Value) (c:Nat),n-(j+1)=k→j+1≤n→St (j+1) s.heap→P (argBest bt j) vb →
   s.heap.get? S=some { cls := .type "list",dict:=none,data := .seq #[vb,vb] c,slots:=#[] } →
   (∀v h' tk,P (argBest bt (n-1)) v→(∀b o,b∉wr→b≠S→s.heap.get? b=some o→h'.get? b=some o)→R (.ok (.ret v)) { s with heap:=h',toks:=tk }) →
   codeAny (model prog w) A (.builtin "min.loop" ⟨[.ref I,.none,.ref S],kw⟩) R s:=by
 have wS:S∉wr:=fun z=>hSf (W.sub _ z)
 have nm:(toString "min" ++ toString ".loop" : String) = "min.loop" := by decide
 intro k
 induction k with
 | zero =>
   intro j s vb c hk hj hst hPb hS hR
   have jn:j+1=n:=by omega
   refine codeAny_builtin F.entry_min_loop ?_;rw [Around.under_plainId F.plain_min_loop _]
   show wpAny _ A.in1 (seqItems? (.ref S) >>= _) _ _ s;refine wpAny_bind (wpAny_seqItems hS rfl ?_)
   show wpAny _ A.in1 (tryCatch (pyNext (.ref I)) _ >>= _) _ _ s;refine wpAny_bind (wpAny_tryCatch (W.done s _ _ (jn▸hst) fun h1 tk kp=>?_))
   have gS:=kp S _ wS hS
   show wpAny _ A.in1 (updateSeq S (fun _=>#[]) >>= _) _ _ _;refine wpAny_bind ?_
   refine wpAny_updateSeq gS rfl (wpAny_bind (wpAny_letGo (wpAny_pure (hR vb _ tk (by rw [←jn];exact hPb) fun b o b1 b2 e=>?_))))
   exact (yeg _ _ (Ne.symm b2)).trans (kp b o b1 e)
 | succ k ih =>
   intro j s vb c hk hj hst hPb hS hR
   have jn:j+1<n:=by omega
   refine codeAny_builtin F.entry_min_loop ?_;rw [Around.under_plainId F.plain_min_loop _]
   show wpAny _ A.in1 (seqItems? (.ref S) >>= _) _ _ s;refine wpAny_bind (wpAny_seqItems hS rfl ?_)
   show wpAny _ A.in1 (tryCatch (pyNext (.ref I)) _ >>= _) _ _ s;refine wpAny_bind (wpAny_tryCatch (W.item (j+1) s _ _ jn hst fun v h1 tk hP st1 kp=>?_))
   have gS:=kp S _ wS hS
   show wpAny _ A.in1 (tryCatch (holding [v,v] (richCompare .Lt v vb >>= _)) _ >>= _) _ _ _;refine wpAny_bind (wpAny_tryCatch (wpAny_holding (wpAny_bind (hcmp (j+1) (argBest bt j) v vb _ _ _ hP hPb ?_))))
   refine wpAny_bind (wpAny_holding (wpAny_truthy_bool (wpAny_bind (wpAny_letGo (wpAny_pure ?_)))))
   cases hb:bt (j+1) (argBest bt j) with
   | true =>
     rw [if_pos rfl];refine wpAny_bind ?_
     refine wpAny_updateSeq gS rfl (wpAny_bind (wpAny_letGo ?_));rw [nm]
     refine wpAny_pure ⟨plainId_quiet F.plain_min_loop _,ih (j+1) _ v _ (by omega) jn (W.frame _ _ _ st1 fun b hf o e=>?_) (by unfold argBest;rw [hb,if_pos rfl];exact hP) (ydr _ gS rfl) fun v' h2 tk2 hP2 kp2=>?_⟩
     · exact (yeg _ _ (fun z:S=b=>hSf (z▸hf))).trans e
     · exact hR v' h2 tk2 hP2 fun b o b1 b2 e=>kp2 b o b1 b2 ((yeg _ _ (Ne.symm b2)).trans (kp b o b1 e))
   | false =>
     rw [if_neg (by decide)];refine wpAny_bind (wpAny_letGo ?_);rw [nm]
     refine wpAny_pure ⟨plainId_quiet F.plain_min_loop _,ih (j+1) _ vb c (by omega) jn st1 (by unfold argBest;rw [hb,if_neg (by decide)];exact hPb) gS fun v' h2 tk2 hP2 kp2=>?_⟩
     exact hR v' h2 tk2 hP2 fun b o b1 b2 e=>kp2 b o b1 b2 (kp b o b1 e)
def qna (W:Walks prog w A.in1 I fp wr n P St) (bt:Nat→Nat→Bool) (hcmp:CmpOf prog w A.in1 .Lt P bt) (S:Addr) (hSf:S∉fp) {d:Value} {s:Shared} {c:Nat} (hst:St 0 s.heap)
   (hS:s.heap.get? S=some { cls := .type "list",dict:=none,data := .seq #[] c,slots:=#[] })
   (hR:∀v h' tk,(n=0∧v=d∨0<n∧P (argBest bt (n-1)) v)→(∀b o,b∉wr→b≠S→s.heap.get? b=some o→h'.get? b=some o)→R (.ok (.ret v)) { s with heap:=h',toks:=tk }) :
   codeAny (model prog w) A (.builtin "min.loop" ⟨[.ref I,.none,.ref S],[("default",d)]⟩) R s:=by
 have wS:S∉wr:=fun z=>hSf (W.sub _ z)
 have nm:(toString "min" ++ toString ".loop" : String) = "min.loop" := by decide
 refine codeAny_builtin F.entry_min_loop ?_;rw [Around.under_plainId F.plain_min_loop _]
 show wpAny _ A.in1 (seqItems? (.ref S) >>= _) _ _ s;refine wpAny_bind (wpAny_seqItems hS rfl ?_)
 rcases yde n with hn | hn
 · show wpAny _ A.in1 (tryCatch (pyNext (.ref I)) _ >>= _) _ _ s;refine wpAny_bind (wpAny_tryCatch (W.done s _ _ (hn.symm▸hst) fun h1 tk kp=>?_))
   show wpAny _ A.in1 (rule _ >>= _) _ _ _;refine wpAny_bind (wpAny_rule (wpAny_pure (hR d h1 tk (.inl ⟨hn,rfl⟩) fun b o b1 b2 e=>kp b o b1 e)))
 · show wpAny _ A.in1 (tryCatch (pyNext (.ref I)) _ >>= _) _ _ s;refine wpAny_bind (wpAny_tryCatch (W.item 0 s _ _ hn hst fun v h1 tk hP st1 kp=>?_))
   have gS:=kp S _ wS hS
   show wpAny _ A.in1 (updateSeq S (fun _=>#[v,v]) >>= _) _ _ _;refine wpAny_bind ?_
   refine wpAny_updateSeq gS rfl ?_;rw [nm]
   refine wpAny_pure ⟨plainId_quiet F.plain_min_loop _,qsN W bt hcmp S hSf _ 0 _ v _ rfl hn (W.frame _ _ _ st1 fun b hf o e=>?_) hP (ydr _ gS rfl) fun v' h2 tk2 hP2 kp2=>?_⟩
   · exact (yeg _ _ (fun z:S=b=>hSf (z▸hf))).trans e
   · exact hR v' h2 tk2 (.inr ⟨hn,hP2⟩) fun b o b1 b2 e=>kp2 b o b1 b2 ((yeg _ _ (Ne.symm b2)).trans (kp b o b1 e))
end
section
variable {prog:Program} {w:World} {A:Around} {E:Value→Shared→Prop} {s:Shared}
def qn9 {l:Addr} {vs:List Value} {ns:List Int} {d:Value} {Q:Value→Shared→Prop} (hh:A.handled=none) (hl:s.heap.IsList l vs.toArray) (hi:IntsAre vs ns)
   (h:∀v h' tk,(ns=[]∧v=d∨∃M t,v = .int M t∧M∈ns∧∀a∈ns,M≤a)→(∀b o,s.heap.get? b=some o→h'.get? b=some o)→Q v { s with heap:=h',toks:=tk }) :
   wpAny (model prog w) A (call (.builtin "min") [.ref l] [("default",d)]) Q E s:=by
 have nm:(toString "min" ++ toString ".loop" : String) = "min.loop" := by decide
 obtain ⟨xs,e⟩:=hi.allInts.items
 have hns:ns=xs.toList.map (·.1):=by rw [←hi.numsOf,←nums_intItems,←e]
 rw [e] at hl
 refine qeF F.kind_min F.plain_min F.entry_min (qmg _ _) ?_
 show wpAny _ A.in1 (Builtin.Builtins.bindParams "min" ["key", "default"] 0 ⟨[],[("default",d)]⟩ >>= _) _ _ s
 refine wpAny_bind (wpAny_of_eq (show Builtin.Builtins.bindParams "min" ["key", "default"] 0 ⟨[],[("default",d)]⟩=pure [none,some d] from rfl) (wpAny_bind (wpAny_pure ?_)))
 refine wpAny_bind (iter_intList hl fun s2 e2 st hfp hlI=>?_)
 have hSf:s2.heap.objs.size∉[s.heap.objs.size,l]:=fun hm=>yen _ (hfp _ hm)
 have W:=Walks.list (prog:=prog) (w:=w) (A:=A.in1) hh s.heap.objs.size l hlI (intItems xs)
 refine wpAny_bind (wpAny_newObj_type ?_);rw [nm]
 refine wpAny_pure ⟨plainId_quiet F.plain_min_loop _,qna W _ (CmpOf.ints_lt (numAt xs) (fun _ _=>intItems_at)) s2.heap.objs.size hSf (d:=d) (W.frame _ _ _ st fun b _ o q=>ydu _ q) (ydt _ rfl) fun v h1 tk hP kp=>?_⟩
 subst e2
 refine h v h1 tk ?_ (old_kept fun b o b1 q=>kp b o b1 (ydx (ydv q)) (ydu _ q))
 have sz:(intItems xs).size=xs.size:=by simp [intItems]
 rcases hP with ⟨h0,rfl⟩ | ⟨h0,hP⟩
 · refine .inl ⟨?_,rfl⟩
   rw [hns,ygo,←yec,ydh];omega
 · obtain ⟨t,rfl⟩:=intItems_at hP
   obtain ⟨h1,h2⟩:=argBest_lt (numAt xs) ((intItems xs).size-1)
   refine .inr ⟨_,t,rfl,?_,fun a ha=>?_⟩
   · rw [hns,numAt_eq];exact getD_mem (by rw [ycd,ydh];omega)
   · rw [hns] at ha;obtain ⟨j,hj,rfl⟩:=mem_getD ha
     rw [ycd,ydh] at hj;rw [←numAt_eq];exact h2 j (by omega)
end
section
variable {X:Cx} {K:PySem.W.Frag} {x:Str} {id:String} {e e2:Expr} {t tk:TA} {p pos kpos:Pos}
def qlE (X:Cx) (f:Value) (r:List V→List V→Hp→VK→Prop):Prop :=
 ∀(pins:List (Addr×Obj)) (s:Shared) (σ:St) (H:Hp) (xs zs:List V) (us ws:List Value) (Q:VK),Inv X pins σ H s→qaV xs us→qaV zs ws→r xs zs H Q →
   wpAny (model X.prog X.w) X.A (call f us ((["default"]:List Str).zip ws)) (EP X pins σ Q) X.xe s
def quD (r:List V→List V→Hp→VK→Prop) (t tk:TA):TE:=fun σ H Q=>t σ H fun vs H1=>tk σ H1 fun zs H2=>r vs zs H2 Q
def qhY {r:List V→List V→Hp→VK→Prop} (hc:qlE X (.builtin id) r) (hg:Gl X x) (hm:X.mg x=none) (hv:bootBuiltins x=some (.builtin id)) (ha:PA X [e] t) (hkw:PK X [⟨some "default",e2,kpos⟩] tk) (hn:x ≠ "__name__" := by decide) (hdb:(x==("__debug__" : Str))=false:=by decide)
   (he:backTo pos (starEach [e] X.env)=(false,eval e X.env)::backTo pos (starEach [] X.env):=by rfl):PE X (.Call (.Name x p) [e] [⟨some "default",e2,kpos⟩] pos) (quD r t tk):=by
 intro pins s σ H Q I h
 refine wpAny_Call_Name_kw (qda I hg hm hv ?_ hn hdb)
 refine PyProof.Rows.callWith_kw (thn (ha pos pins s σ H _ I h) fun us s1 ⟨vs,H1,I1,r1,q1⟩=>?_) he (by rw [he];rfl)
 exact thn (hkw pos pins s1 σ H1 _ I1 q1) fun ws s2 ⟨zs,H2,I2,r2,q2⟩=>hc pins s2 σ H2 vs zs us ws Q I2 r1 r2 q2
def qud (K:PySem.W.Frag):List V→List V→Hp→VK→Prop:=fun xs zs H Q=>∃(l:Addr) (ns:List Int) (d:Int),xs=[.ref l]∧zs=[.int d]∧SqL K H l (ns.map V.int)∧∀M:Int,(ns=[]∧M=d∨M∈ns∧∀a∈ns,a≤M)→Q (.int M) H
def qtS (K:PySem.W.Frag):List V→List V→Hp→VK→Prop:=fun xs zs H Q=>∃(l:Addr) (ns:List Int) (d:Int),xs=[.ref l]∧zs=[.int d]∧SqL K H l (ns.map V.int)∧∀M:Int,(ns=[]∧M=d∨M∈ns∧∀a∈ns,M≤a)→Q (.int M) H
def qmt (hc:X.calm=true) (hK:X.K=K):qlE X (.builtin "max") (qud K):=by
 subst hK
 intro pins s σ H xs zs us ws Q I r rz h
 obtain ⟨l,ns,d,rfl,rfl,hq,q⟩:=h
 obtain ⟨u,rfl,ru⟩:=qb6 r
 obtain ⟨w',rfl,t,rfl⟩:=qb6 rz
 cases ru
 obtain ⟨its,rv,pl,hz⟩:=I.list hq
 refine qnn (I.ok.hd hc) pl.isList (qb9 rv) fun v h1 tk hv kp=>?_
 rcases hv with ⟨h0,rfl⟩ | ⟨M,t',rfl,h1',h2'⟩
 · exact ⟨.int d,H,I.kept (t':=tk) kp,⟨t,rfl⟩,q d (.inl ⟨h0,rfl⟩)⟩
 · exact ⟨.int M,H,I.kept (t':=tk) kp,⟨t',rfl⟩,q M (.inr ⟨h1',h2'⟩)⟩
def qlz (hc:X.calm=true) (hK:X.K=K):qlE X (.builtin "min") (qtS K):=by
 subst hK
 intro pins s σ H xs zs us ws Q I r rz h
 obtain ⟨l,ns,d,rfl,rfl,hq,q⟩:=h
 obtain ⟨u,rfl,ru⟩:=qb6 r
 obtain ⟨w',rfl,t,rfl⟩:=qb6 rz
 cases ru
 obtain ⟨its,rv,pl,hz⟩:=I.list hq
 refine qn9 (I.ok.hd hc) pl.isList (qb9 rv) fun v h1 tk hv kp=>?_
 rcases hv with ⟨h0,rfl⟩ | ⟨M,t',rfl,h1',h2'⟩
 · exact ⟨.int d,H,I.kept (t':=tk) kp,⟨t,rfl⟩,q d (.inl ⟨h0,rfl⟩)⟩
 · exact ⟨.int M,H,I.kept (t':=tk) kp,⟨t',rfl⟩,q M (.inr ⟨h1',h2'⟩)⟩
end
end L2
namespace L2
open PySem PySem.Spec PyProof.Rows
section
variable {X:Cx} {pins:List (Addr×Obj)} {σ:St} {H:Hp} {s:Shared} {h':Heap} {K:PySem.W.Frag}
def Inv.turnedL {t':Nat} {ch:List Addr} (I:Inv X pins σ H s) (k:∀b o,b∉ch→s.heap.get? b=some o→h'.get? b=some o) (f:∀b∈ch,qj4 X pins H b):Inv X pins σ H { s with heap:=h',toks:=t' }:=by
 have nit:∀b u,H b=some u→b∉ch:=fun b u q z=>by rw [(f b z).1] at q;cases q
 refine I.step (g':=s.gens) (d':=s.drawn) (ch:=ch) (fun b hb=>⟨(f b hb).2.2.2.1,(f b hb).2.1,(f b hb).2.2.2.2.1,(f b hb).2.2.2.2.2⟩) (fun b o _ _ hc q _=>k b o hc q) (fun b o _ _ hc q _=>⟨o.slots,k b o hc q⟩) (fun _ _ _ _ n=>n)
   (fun b o hc q=>⟨o,k b o hc q⟩) (fun _ _ q=>q) (fun _ _ _ q=>q) (fun b ps q=>⟨#[],by rw [q];simp⟩) (fun m hm=>?_) (fun b u q=>?_) I.bare
 · obtain ⟨o,es,ep,ho,r⟩:=hm
   exact ⟨o,es,ep,k _ o (fun z=>(f _ z).2.1 rfl) ho,r⟩
 · refine (I.hok b u q).stay (fun c v hc z=>k c v ?_ z) (fun _ z=>z) fun _ _ z=>z
   rcases hc with y | y
   · rw [y];exact nit b u q
   · exact nit c _ y
def Itz (K:PySem.W.Frag) (a b:Addr):It :=
 ⟨fun i H=>∃xs ys x y,SqL K H a xs∧SqL K H b ys∧xs[i]?=some x∧ys[i]?=some y,fun i H v H'=>∃t,v = .ref t∧H t=none∧∀xs ys x y,SqL K H a xs→SqL K H b ys→xs[i]?=some x→ys[i]?=some y→H'=upd H t (.tup [x,y]),
   fun i H=>∃xs ys,SqL K H a xs∧SqL K H b ys∧(xs.length≤i∨ys.length≤i)⟩
def qoL {P:Program} {w:World} {elts:List Expr} {x1:Nat} {pos:Pos} (a b z TI TO i1 i2:Addr) (D:ZipApart z TI TO i1 i2 a b):qnh P w K (.Tuple elts x1 pos) (Itz K a b) [z,TI,TO,i1,i2] z
   (fun i h=>IsZip h z TI TO .none∧IsPair h TI (.ref i1) (.ref i2)∧(∃c d,IsPair h TO c d)∧h.IsListIter i1 a i∧h.IsListIter i2 b i) where
 mem:=by simp
 obj:=fun i h st c hc=>by
   obtain ⟨hz,h1,⟨c1,d1,h2⟩,⟨o1,e1,_,q1⟩,⟨o2,e2,_,q2⟩⟩:=st
   simp only [ybg,ydz,or_false] at hc
   rcases hc with rfl | rfl | rfl | rfl | rfl
   · exact ⟨_,hz,fun v y=>by have y':Data.fields _=Data.cell v:=y;cases y'⟩
   · exact ⟨_,h1,fun v y=>by have y':Data.seq _ _=Data.cell v:=y;cases y'⟩
   · exact ⟨_,h2,fun v y=>by have y':Data.seq _ _=Data.cell v:=y;cases y'⟩
   · exact ⟨o1,e1,fun v y=>by rw [q1] at y;cases y⟩
   · exact ⟨o2,e2,fun v y=>by rw [q2] at y;cases y⟩
 keep:=fun i h h' st k=>by
   obtain ⟨hz,h1,⟨c1,d1,h2⟩,h3,h4⟩:=st
   exact ⟨k z (by simp) _ hz,k TI (by simp) _ h1,⟨c1,d1,k TO (by simp) _ h2⟩,h3.at fun o q=>k i1 (by simp) o q,h4.at fun o q=>k i2 (by simp) o q⟩
 item:=by
   intro X hP hw hK hc i pins s σ H E I hf st hg
   subst hP hw hK
   obtain ⟨xs,ys,x,y,hqa,hqb,hx,hy⟩:=hg
   obtain ⟨itsa,rva,pa,hza⟩:=I.list hqa
   obtain ⟨itsb,rvb,pb,hzb⟩:=I.list hqb
   obtain ⟨u,hu,ru⟩:=rva.get hx
   obtain ⟨v,hv,rv⟩:=rvb.get hy
   obtain ⟨hz,h1,⟨c1,d1,h2⟩,h3,h4⟩:=st
   have fr:=I.hok.fresh (yba s.heap.objs.size)
   have lt:∀c∈[z,TI,TO,i1,i2],c<s.heap.objs.size:=fun c hc=>by
     simp only [ybg,ydz,or_false] at hc
     rcases hc with rfl | rfl | rfl | rfl | rfl
     · exact ydv hz
     · exact ydv h1
     · exact ydv h2
     · obtain ⟨_,q,_⟩:=h3;exact ydv q
     · obtain ⟨_,q,_⟩:=h4;exact ydv q
   refine wpAny_pyNext_zip_item D hz h1 h2 h3 h4 pa.isList pb.isList (x:=u) (y:=v) (by simpa using hu) (by simpa using hv) fun h' a1 a2 a3 a4 a5 a6 hk=>⟨_,rfl,?_⟩
   refine wpAny_letOwnedTupleGo_zip (s:={ s with heap:=h' }) a1 fun g2 hz2 hs2=>?_
   have I1:Inv X pins σ (upd H s.heap.objs.size (.tup [x,y])) { s with heap:=s.heap.push { cls := .type "tuple",data := .seq #[u,v] },toks:=s.toks } :=
     I.laid (t':=s.toks) (fun b u e=>ydu _ e) (yba _) ⟨by simp;decide,[u,v],.cons ru (.cons rv .nil),⟨_,ydt _ rfl,rfl,_,rfl⟩⟩
   have up:∀c∈[z,TI,TO,i1,i2],upd H s.heap.objs.size (.tup [x,y]) c=none:=fun c hc=>by
     rw [qay (ydx (lt c hc))]
     exact (hf c hc).1
   have I2:Inv X pins σ (upd H s.heap.objs.size (.tup [x,y])) { s with heap:=g2,toks:=s.toks }
     := Inv.turnedL (s:={ s with heap:=s.heap.push { cls := .type "tuple",data := .seq #[u,v] },toks:=s.toks }) (h':=g2) (t':=s.toks) (ch:=[z,TI,TO,i1,i2]) I1 (fun b o hb q=>by
     simp only [ybg,ydz,or_false,not_or] at hb
     rw [hs2.2 b hb.1]
     by_cases c:b=s.heap.objs.size
     · subst c
       have q0:(s.heap.push { cls := .type "tuple",data := .seq #[u,v] }).get? s.heap.objs.size=some { cls := .type "tuple",data := .seq #[u,v] }:=ydt _ rfl
       have q1:(s.heap.push { cls := .type "tuple",data := .seq #[u,v] }).get? s.heap.objs.size=some o:=q
       rw [q0] at q1
       cases q1
       exact a5
     · have q1:(s.heap.push { cls := .type "tuple",data := .seq #[u,v] }).get? b=some o:=q
       rw [ygg _ _ _ c] at q1
       exact hk b o hb.1 hb.2.2.1 hb.2.2.2.1 hb.2.2.2.2 q1) (fun c hc=>⟨up c hc,(hf c hc).2⟩)
   refine ⟨.ref s.heap.objs.size,_,I2,rfl,⟨_,rfl,fr,fun xs' ys' x' y' hxa hyb hx' hy'=>?_⟩,⟨hz2,?_,⟨_,_,(hs2.2 TO D.TOz).trans a2⟩,a3.at fun o q=>(hs2.2 i1 D.i1z).trans q,a4.at fun o q=>(hs2.2 i2 D.i2z).trans q⟩,up⟩
   · rw [I.list_inj hxa hqa,hx] at hx'
     rw [I.list_inj hyb hqb,hy] at hy'
     cases hx'
     cases hy'
     rfl
   · exact (hs2.2 TI D.TIz).trans (hk TI _ D.TIz D.TITO D.TIi1 D.TIi2 h1)
 done:=by
   intro X hP hw hK hc i pins s σ H E I hf st hg
   subst hP hw hK
   obtain ⟨xs,ys,hqa,hqb,hx⟩:=hg
   obtain ⟨itsa,rva,pa,hza⟩:=I.list hqa
   obtain ⟨itsb,rvb,pb,hzb⟩:=I.list hqb
   obtain ⟨hz,h1,⟨c1,d1,h2⟩,h3,h4⟩:=st
   have la:=rva.length
   have lb:=rvb.length
   refine wpAny_pyNext_zip_end (I.ok.hd hc) D hz h1 h2 h3 h4 pa.isList pb.isList (by rcases hx with y | y;exact .inl (by simp;omega);exact .inr (by simp;omega)) fun h' hk=>⟨rfl,I.turnedL (t':=s.toks) (ch:=[z,TI,TO,i1,i2]) (fun b o hb e=>?_) hf⟩
   simp only [ybg,ydz,or_false,not_or] at hb
   exact hk b o hb.1 hb.2.2.1 hb.2.2.2.1 hb.2.2.2.2 e
 self:=fun _ _ _ _ _ st h=>wpAny_pyIter_zip st.1 h
def quG (K:PySem.W.Frag) (ta:TA):TI:=fun σ H R=>ta σ H fun vs H1=>∃a b xs ys,vs=[.ref a,.ref b]∧SqL K H1 a xs∧SqL K H1 b ys∧R (Itz K a b) H1
def qrJ {a b:Expr} {elts:List Expr} {x1:Nat} {tp:Pos} {ta:TA} {p pos:Pos} (hK:X.K=K) (hg:Gl X "zip") (hm:X.mg "zip" = none) (ha:PA X [a,b] ta) (hs:starEach [a,b] X.env=(false,eval a X.env)::starEach [b] X.env:=by rfl) (hs2:(backTo pos (starEach [b] X.env)).any (·.1)=false:=by rfl):PI X (.Tuple elts x1 tp) (.Call (.Name "zip" p) [a,b] [] pos) (quG K ta):=by
 subst hK
 intro pins s σ H R I h
 refine Call_ (qda I hg hm PyProof.Rows.boot_zip (PyProof.Rows.callWith_type1 (thn (ha pos pins s σ H _ I h) fun us s1 ⟨vs,H1,I1,r1,q1⟩=>?_) hs hs2))
 obtain ⟨l1,l2,xs,ys,rfl,hqa,hqb,q⟩:=q1
 obtain ⟨u,v,rfl,ru,rv⟩:=qlI r1
 cases ru
 cases rv
 obtain ⟨itsa,rva,pa,hza⟩:=I1.list hqa
 obtain ⟨itsb,rvb,pb,hzb⟩:=I1.list hqb
 have la:l1<s1.heap.objs.size:=by obtain ⟨_,q,_⟩:=pa.isList;exact ydv q
 have lb:l2<s1.heap.objs.size:=by obtain ⟨_,q,_⟩:=pb.isList;exact ydv q
 generalize en:s1.heap.objs.size=n at la lb
 refine call_zip_2 pa.isList pb.isList fun h' g1 g2 g3 g4 g5 g6 hk=>?_
 rw [en] at g1 g2 g3 g4 g5 ⊢
 have I2:Inv X pins σ H1 { s1 with heap:=h' }:=I1.kept (t':=s1.toks) hk
 refine wpAny_pyIter_zip g1 ⟨n+4,[n+4,n+2,n+3,n,n+1],_,_,H1,rfl,I2,qoL l1 l2 (n+4) (n+2) (n+3) n (n+1) ?_,⟨g1,g2,⟨_,_,g3⟩,g4,g5⟩,fun c hb=>?_,q⟩
 · have la':@LT.lt Nat _ l1 n:=la
   have lb':@LT.lt Nat _ l2 n:=lb
   constructor<;>(intro z;exact absurd (show @Eq Nat _ _ from z) (by omega))
 · have:n≤c:=by
     simp only [ybg,ydz,or_false] at hb
     rcases hb with rfl | rfl | rfl | rfl | rfl<;>omega
   exact I1.fpOk (by omega) (I1.hok.fresh (by omega))
end
section
variable {K:PySem.W.Frag} {g:TG} {tb:TS} {D:qf2} {σ:L2.St} {H:Hp} {a b:Addr} {ta:TA}
def qrO:qng (quG K ta) g tb D σ H↔ta σ H fun vs H1=>∃a b xs ys,vs=[.ref a,.ref b]∧SqL K H1 a xs∧SqL K H1 b ys∧qc3 (Itz K a b) g tb D σ H1:=Iff.rfl
def qsH {xs ys:List V} (hl:ys.length=xs.length) (Pv:Nat→L2.St→Hp→Prop) (h0:Pv 0 σ H) (hq:∀i σ H,i≤xs.length→Pv i σ H→SqL K H a xs∧SqL K H b ys)
   (hs:∀i x y σ H t,xs[i]?=some x→ys[i]?=some y→Pv i σ H→H t=none→∀N:L2.St→Hp→Prop,(∀σ' H',Pv (i+1) σ' H'→N σ' H')→g (.ref t) σ (upd H t (.tup [x,y])) fun σ2 H2=>tb { D with nx:=N,ct:=N,bk:=D.nx } σ2 H2) (hd:∀σ H,Pv xs.length σ H→D.nx σ H):qc3 (Itz K a b) g tb D σ H:=by
 refine ⟨fun i m σ H=>m=xs.length-i∧i≤xs.length∧Pv i σ H,⟨_,rfl,ybz _,h0⟩,?_⟩
 rintro i m σ H ⟨rfl,hi,p⟩
 obtain ⟨hqa,hqb⟩:=hq i σ H hi p
 by_cases hlt:i<xs.length
 · have hx:xs[i]?=some xs[i]:=ycj hlt
   have hy:ys[i]?=some (ys[i]'(by omega)):=ycj _
   refine .inr ⟨⟨xs,ys,_,_,hqa,hqb,hx,hy⟩,Pv (i+1),fun σ' H' q=>⟨xs.length-(i+1),by omega,rfl,hlt,q⟩,fun x H' y=>?_⟩
   obtain ⟨t,rfl,ht,y⟩:=y
   rw [y _ _ _ _ hqa hqb hx hy]
   exact hs i _ _ σ H t hx hy p ht _ fun _ _ q=>q
 · obtain rfl:i=xs.length:=by omega
   exact .inl ⟨⟨xs,ys,hqa,hqb,.inl (yba _)⟩,hd σ H p⟩
def qsM {tl:TE}:qng (qtE K tl) g tb D σ H↔tl σ H fun x H1=>∃a,x = .ref a∧(∃xs,SqT K H1 a xs)∧qc3 (Itt K a) g tb D σ H1:=Iff.rfl
end
end L2
namespace L2
open PySem PySem.Spec PyProof.Rows
structure qtT (X:Cx) (N:List Str) (nt:Nat) (caps:List Nat) (cx:Str) (scope:Scope):Prop where
 one:∀n acc,cellsFrom n scope.names acc=(cx,n)::acc
 push:∀h:Heap,pushCells h scope.names=h.push { cls := .type "cell",data := .cell none }
 cell:∀y∈scope.names,y.2 = .cell→y.1=cx
 notf:(cx,NameKind.free)∉scope.names
 kind:scope.kind = .function
 names:∀x∈scope.names,x.2 = .local→scope.names.lookup x.1=some .local
 free:∀n,(n,NameKind.free)∈scope.names→X.env.kindOf n=some .cell∨X.env.kindOf n=some .free
 cap:∀(j i:Nat),caps[j]?=some i→∃x,X.N[i]?=some x∧N[nt+j]?=some x∧(x,NameKind.free)∈scope.names∧scope.names.lookup x=some .free
 len:N.length=nt+caps.length
section
variable {X:Cx} {tg iter elt:Expr} {ifs:List Expr} {scope:Scope} {pos:Pos} {N:List Str} {nt:Nat} {caps:List Nat} {wi:TI} {g:TG} {tt:TT} {te:TE} {cl:List (Str×Addr)} {cx:Str}
end
end L2
namespace L2
open PySem PySem.Spec PyProof.Rows
abbrev sV (ys:List Str):List V:=ys.map V.str
def qgr:∀{ys:List Str} {us:List Value},qaV (sV ys) us→StrsAre us ys
 | [],_,.nil => .nil
 | y::ys,_,.cons r t=>by
   obtain ⟨k,rfl⟩:=(show ∃k,_=Value.str y k from r)
   exact .cons y k (qgr t)
def qfI:∀(l:List (Str×Tok)),qaV (sV (l.map (·.1))) (strValues l)
 | [] => .nil
 | (y,t)::l => .cons ⟨t,rfl⟩ (qfI l)
section
variable {X:Cx}
def qt9 (K:PySem.W.Frag):V→List V→Hp→VK→Prop:=fun x vs H Q=>∃(sep:Str) (l:Addr) (ys:List Str),x = .str sep∧vs=[.ref l]∧SqL K H l (sV ys)∧(ys.map (·.length)).sum+ys.length*sep.length≤16777216∧Q (.str (Txt.join sep ys)) H
def qaM {K:PySem.W.Frag} (hK:X.K=K):MtM X "str.join" (qt9 K):=by
 subst hK
 intro pins s σ H x vs v us Q I rx rv h
 obtain ⟨sep,l,ys,rfl,rfl,hq,hz,q⟩:=h
 obtain ⟨t,rfl⟩:=rx
 obtain ⟨u,rfl,ru⟩:=rv.one
 cases (show u=Value.ref l from ru)
 obtain ⟨its,r,p,_⟩:=I.list hq
 exact join_list p.isList (by simpa using qgr r) hz fun t' k=>⟨.str _,H,I.tok k,⟨_,rfl⟩,q⟩
def qtg:V→List V→Hp→VK→Prop:=fun x vs H Q=>∃(z y:Str),x = .str z∧vs=[.str y]∧(y.length==0)=false∧z.length≤100000∧∀l,H l=none→Q (.ref l) (upd H l (.lst (sV (Txt.split z y))))
def qgy:MtM X "str.split" qtg:=by
 intro pins s σ H x vs v us Q I rx rv h
 obtain ⟨z,y,rfl,rfl,hy,hz,q⟩:=h
 obtain ⟨t,rfl⟩:=rx
 obtain ⟨u,rfl,ru⟩:=rv.one
 obtain ⟨t2,rfl⟩:=ru
 have hl:=split_le z y
 have e24:sizeLine=16777216:=sizeLine_eq
 have fin:∀(l:List (Str×Tok)) (k:Nat),l.map (·.1)=Txt.split z y→EP X pins σ Q (.ref s.heap.objs.size) { s with heap:=s.heap.push { cls := .type "list",data := .seq (strValues l).toArray },toks:=k }:=fun l k e =>
   ⟨.ref s.heap.objs.size,_,I.lnew (ys:=sV (Txt.split z y)) (t':=k) (by rw [←e];exact qfI l) (by rw [ycd];omega),rfl,q _ I.fresh⟩
 cases h1:(decide (z.length<y.length)||decide (Builtin.Str.strKind z<Builtin.Str.strKind y)) with
 | true=>exact call_meets F.slot_str_split (typeIs_str _ _ _) F.entry_str_split (F.args_str_split_2 _ _) (meets_str_split_cannot_occur z y t t2 h1) (fin [(z,t)] s.toks (if_pos h1).symm)
 | false =>
   cases h2:(Builtin.Str.occurrences z y 0 z.length (z.length+1)).isEmpty with
   | true=>exact call_meets F.slot_str_split (typeIs_str _ _ _) F.entry_str_split (F.args_str_split_2 _ _) (meets_str_split_not_found z y t t2 h1 hy h2) (fin [(z,t)] s.toks ((if_neg (ne_true_of_eq_false h1)).trans (if_pos h2)).symm)
   | false =>
     have es:Txt.split z y=Builtin.Str.partsBetween z (Builtin.Str.occurrences z y 0 z.length (z.length+1)) y.length:=(if_neg (ne_true_of_eq_false h1)).trans (if_neg (ne_true_of_eq_false h2))
     refine call_meets F.slot_str_split (typeIs_str _ _ _) F.entry_str_split (F.args_str_split_2 _ _) (meets_str_split_sep z y t t2 h1 hy h2 (by omega) (by rw [←es];omega)) ?_
     rw [strsFrom_eq]
     exact fin (numbered s.toks _) _ ((numbered_texts _ _).trans es.symm)
def quX:V→Option Int→Option Int→Hp→VK→Prop:=fun x lo hi H Q=>∃z:Str,x = .str z∧z.length≤100000∧Q (.str (Txt.slice z lo hi)) H
def qjQ {v:Value} {o:Option Int} (h:IsPart v o):∃p:Option (Int×Tok),v=partValue p∧p.map (·.1)=o:=by
 cases h with
 | none=>exact ⟨none,rfl,rfl⟩
 | int=>exact ⟨some (_,_),rfl,rfl⟩
def qpt:SlR X quX:=by
 intro pins s σ H x v vl vu lo hi sl Q I rx hs pl pu h
 obtain ⟨z,rfl,hz,q⟩:=h
 obtain ⟨t,rfl⟩:=rx
 obtain ⟨a,rfl,rfl⟩:=qjQ pl
 obtain ⟨b,rfl,rfl⟩:=qjQ pu
 have e24:sizeLine=16777216:=sizeLine_eq
 refine ⟨"str",_,F.slot_str_getitem.lookup,typeIs_str _ _ _,wpAny_getItem_str_slice (l:=a) (u:=b) (st:=none) hs rfl (post_val_or_str ⟨ydc (Txt.slice_le z _ _) (by omega),fun t' k=>?_⟩)⟩
 exact ⟨.str _,H,I.tok k,⟨_,rfl⟩,q⟩
def qib:OpR X (compareOp .LtE) (fun x y H Q=>∃i j,x = .str i∧y = .str j∧Q (.bl (!decide (j.cps.toList<i.cps.toList))) H):=by
 intro pins s σ H x y v u Q I rx ry h
 obtain ⟨i,j,rfl,rfl,q⟩:=h
 obtain ⟨t,rfl⟩:=rx
 obtain ⟨t',rfl⟩:=ry
 exact P.le_str (qaN I q rfl)
def qqj:V→List V→Hp→VK→Prop:=fun x vs H Q=>∃(l:Addr) (ys:List Str) (k:Str),x = .ref l∧vs=[.str k]∧H l=some (.lst (sV ys))∧k∈ys∧ys.length≤1000∧Q (.int (ys.idxOf k:Nat)) H
def qeq (k:Str):∀{vs:List Value} {ys:List Str},StrsAre vs ys→∀(i:Nat) (h1:i<vs.length) (h2:i<ys.length),isStrOf k vs[i]=(ys[i]==k)
 | _,_,.nil,i,h1,_=>absurd h1 (ygp i)
 | _,_,.cons y t r,0,_,_=>rfl
 | _,_,.cons y t r,i+1,h1,h2=>qeq k r i (yeb h1) (yeb h2)
def StrsAre.len:∀{vs:List Value} {ys:List Str},StrsAre vs ys→vs.length=ys.length
 | _,_,.nil=>rfl
 | _,_,.cons y t r=>congrArg (· + 1) (StrsAre.len r)
def qjR:∀{ys:List Str} {k:Str} {j:Nat},j<ys.idxOf k→∀h:j<ys.length,(ys[j]==k)=false
 | [],_,j,_,h=>absurd h (ygp j)
 | y::ys,k,j,w,h=>by
   rw [List.idxOf_cons] at w
   cases c:y==k with
   | true=>rw [c] at w;exact absurd w (by simp)
   | false =>
     rw [c] at w
     cases j with
     | zero=>exact c
     | succ j =>
       have w:j+1<ys.idxOf k+1:=w
       exact qjR (ys:=ys) (by omega) (yeb h)
def qmV:MtM X "list.index" qqj:=by
 intro pins s σ H x vs v us Q I rx rv h
 obtain ⟨l,ys,k,rfl,rfl,hH,hk,hb,q⟩:=h
 cases rx
 obtain ⟨u,rfl,ru⟩:=rv.one
 obtain ⟨t,rfl⟩:=ru
 obtain ⟨z,its,n,r,hl,e⟩:=I.lstM hH
 have hi:=qgr r
 have hlen:=StrsAre.len hi
 have hj:ys.idxOf k<ys.length:=ycq.mpr hk
 refine call_meets ygq ⟨_,e,rfl⟩ PySem.F.entry_list_index (PySem.F.args_list_index_2 _ _) (SeqAt.list_indexAt l its.toArray n none #[] (.str k t) (isStrOf k) (ys.idxOf k) (by rw [yfh];omega) (by omega) ?_ fun j w1 w2=>?_) ⟨e,fun y hy=>(eq_isStrOf k t hi y (by simpa using hy)).at _ _,?_⟩
 · exact (qeq k hi _ (by omega) hj).trans (by simp)
 · refine (qeq k hi j (by simpa using w1) (by omega)).trans ?_
   exact qjR w2 _
 · exact ⟨.int _,H,I.tok _,⟨_,rfl⟩,q⟩
end
end L2
namespace L2
open PySem PySem.Spec PyProof.Rows
def Its (z:Str):It:=⟨fun i _=>i<z.length,fun i H x H'=>H'=H∧∃c,z.cps[i]?=some c∧x = .str ⟨#[c]⟩,fun i _=>z.length≤i⟩
def qnv {P:Program} {w:World} {K:PySem.W.Frag} {tg:Expr} (z:Str) (t:Tok) (it:Addr):qnh P w K tg (Its z) [it] it (fun i h=>h.IsStrIter it "str_ascii_iterator" z t i) where
 mem:=by simp
 obj:=fun i h J b hb=>by
   obtain rfl:b=it:=by simpa using hb
   obtain ⟨oi,e1,_,e3⟩:=J
   exact ⟨oi,e1,fun v z=>by rw [e3] at z;cases z⟩
 keep:=fun i h h' J k=>by
   obtain ⟨oi,e1,r⟩:=J
   exact ⟨oi,k it (by simp) oi e1,r⟩
 item:=by
   intro X hP hw hK hc i pins s σ H E I hf J hg
   subst hP hw hK
   have hi:i<z.cps.size:=hg
   have hx:z.cps[i]?=some z.cps[i]:=Array.getElem?_eq_getElem hi
   obtain ⟨f0,f1,f2,f3,f4,f5⟩:=hf it (by simp)
   refine wpAny_pyNext_ascii_item J hx fun h' J' sb=>?_
   have I1:Inv X pins σ H { s with heap:=h',toks:=s.toks+1 }:=I.turned (fun b o hb e=>(sb.2 b hb).trans e) f0 f1 f3 f4 f5
   obtain ⟨oj,e1,e2,e3⟩:=id J'
   exact ⟨_,rfl,qml (s:={ s with heap:=h',toks:=s.toks+1 }) e1 e2 e3 (by decide) ⟨.str ⟨#[z.cps[i]]⟩,H,I1,⟨_,rfl⟩,⟨rfl,_,hx,rfl⟩,J',fun b hb=>(hf b hb).1⟩⟩
 done:=by
   intro X hP hw hK hc i pins s σ H E I hf J hg
   subst hP hw hK
   obtain ⟨f0,f1,f2,f3,f4,f5⟩:=hf it (by simp)
   exact wpAny_pyNext_ascii_end (I.ok.hd hc) J (ydd hg) fun h' eb=>⟨rfl,I.turned (t':=s.toks) (fun b o hb e=>eb b o hb e) f0 f1 f3 f4 f5⟩
 self:=fun _ _ _ _ _ J q=>wpAny_pyIter_striter_ascii J q
def qtR (tl:TE):TI:=fun σ H R=>tl σ H fun x H1=>∃z:Str,x = .str z∧z.cps.all (· < 128)=true∧R (Its z) H1
section
variable {X:Cx} {tg:Expr}
def qsX {l:Expr} {tl:TE} (hl:PE X l tl):PI X tg l (qtR tl):=by
 intro pins s σ H R I h
 refine thn (hl pins s σ H _ I h) fun v s1 ⟨x,H1,I1,r1,z,ex,ha,q⟩=>?_
 subst ex
 obtain ⟨t,rfl⟩:=r1
 refine wpAny_pyIter_ascii ha ⟨s1.heap.objs.size,[s1.heap.objs.size],_,_,H1,rfl,I1.kept (t':=s1.toks) fun b o e=>ydu _ e,qnv z t _,⟨_,ydt _ rfl,rfl,rfl⟩,fun b hb=>?_,q⟩
 obtain rfl:b=s1.heap.objs.size:=by simpa using hb
 exact I1.fpOk (yba _) (I1.hok.fresh (yba _))
end
section
variable {g:TG} {tb:TS} {D:qf2} {σ:St} {H:Hp} {z:Str} {nt:Nat} {caps:List Nat} {tt:TT} {te tl:TE} {Q:VK}
def qsr:qng (qtR tl) g tb D σ H↔tl σ H fun x H1=>∃z:Str,x = .str z∧z.cps.all (· < 128)=true∧qc3 (Its z) g tb D σ H1:=Iff.rfl
def qpQ:qgY nt caps (qtR tl) g tt te σ H Q↔tl σ H fun x H1=>∃z:Str,x = .str z∧z.cps.all (· < 128)=true∧qcx (Its z) nt caps g tt te σ H1 Q:=Iff.rfl
def sgs (z:Str):List Nat:=z.cps.toList
def qq6 (z:Str):(sgs z).length=z.length:=by simp [sgs,Str.length]
def qsm {z:Str} {i:Nat}:(sgs z)[i]?=z.cps[i]?:=by simp [sgs]
def qet (c:Nat→Bool) (fs:List Nat) (i x:Nat) (hx:fs[i]?=some x):(fs.take (i+1)).filter c=(fs.take i).filter c++if c x=true then [x] else []:=by
 rw [ygr,hx,yax]
 cases h:c x<;>simp [h]
def qs1 (c:Nat→Bool) (f:Nat→V) (hz:z.length≤100000)
   (hs:∀x∈sgs z,∀H1,qar H H1→∀(R:VK) (R':Hp→Prop),(c x=true→∀H2,qar H1 H2→R (f x) H2)→(c x=false→∀H2,qar H1 H2→R' H2) →
     g (.str ⟨#[x]⟩) (qbT nt caps σ) H1 fun σ4 H4=>tt σ4 H4 fun b H5=>if b=true then te σ4 H5 R else R' H5)
   (hd:∀H1 p,qar H H1→H1 p=none→Q (.ref p) (upd H1 p (.lst (((sgs z).filter c).map f)))):qcx (Its z) nt caps g tt te σ H Q:=by
 have e24:sizeLine=16777216:=sizeLine_eq
 refine ⟨fun i m ys H1=>m=z.length-i∧i≤z.length∧qar H H1∧ys=(((sgs z).take i).filter c).map f,⟨_,rfl,ybz _,qar.refl _,rfl⟩,?_⟩
 rintro i m ys H2 ⟨rfl,hi,sm,rfl⟩
 have ln:((((sgs z).take i).filter c).map f).length≤i:=by
   rw [ycd]
   exact ydc (ygc _ _) (by rw [yfb];omega)
 rcases yah i z.length with k | k
 · refine .inr ⟨k,by omega,fun x H3 y=>?_⟩
   obtain ⟨rfl,cc,k1,rfl⟩:=y
   have k2:(sgs z)[i]?=some cc:=qsm.trans k1
   have ex:=qet c (sgs z) i cc k2
   refine hs cc (yck k2) _ sm _ _ (fun hc H4 s4=>⟨z.length-(i+1),by omega,rfl,k,sm.trans s4,?_⟩) fun hc H4 s4=>⟨z.length-(i+1),by omega,rfl,k,sm.trans s4,?_⟩
   · rw [ex,hc,if_pos rfl,ycu]
     rfl
   · rw [ex,hc,if_neg yet,yed]
 · obtain rfl:i=z.length:=by omega
   refine .inl ⟨yba _,by omega,fun p hp=>?_⟩
   rw [show (sgs z).take z.length=sgs z from by rw [←qq6];exact ydi]
   exact hd H2 p sm hp
end
section
variable {X:Cx} {K:PySem.W.Frag}
def quY (K:PySem.W.Frag):List V→Hp→VK→Prop:=fun xs H Q=>∃(l:Addr) (bs:List Bool),xs=[.ref l]∧SqL K H l (bs.map V.bl)∧Q (.bl (bs.all id)) H
def qoh (hc:X.calm=true) (hK:X.K=K):qb7 X (.builtin "all") (quY K):=by
 subst hK
 intro pins s σ H xs us Q I r h
 obtain ⟨l,bs,rfl,hq,q⟩:=h
 obtain ⟨u,rfl,ru⟩:=qb6 r
 cases (show u=Value.ref l from ru)
 obtain ⟨its,rv,p,hz⟩:=I.list hq
 have hl:=rv.length
 rw [ycd] at hl
 have hlt:l<s.heap.objs.size:=by
   obtain ⟨o,e,_⟩:=p.isList
   exact ydv e
 refine call_all_walk (wpAny_pyIter_list p.isList ?_)
 refine ⟨s.heap.objs.size,_,_,_,_,_,fun i=>bs.getD i true,rfl,Walks.list (A:=X.A.in1) (I.ok.hd hc) _ l (ydx hlt) its.toArray,⟨⟨_,ydt _ rfl,rfl,rfl⟩,?_⟩,fun i v s2 Q2 E2 hv hQ=>?_,fun h' tk hk=>?_⟩
 · obtain ⟨o,e,rr⟩:=p.isList
   exact ⟨o,ydu _ e,rr⟩
 · have hv:its[i]?=some v:=by simpa using hv
   have hi:i<bs.length:=by
     have:=(ycl.mp hv).1
     omega
   obtain ⟨u2,h2,r2⟩:=rv.get (i:=i) (x := .bl bs[i]) (by rw [yco,ycj hi];rfl)
   rw [hv] at h2
   cases h2
   cases (show v=Value.bool bs[i] from r2)
   have hQ:Q2 (bs.getD i true) s2:=hQ
   rw [yci,ycj hi] at hQ
   exact wpAny_pure hQ
 · have e:(List.range its.toArray.size).all (fun i=>bs.getD i true)=bs.all id:=by
     rw [yfh,←hl,yay,ybi,ybi]
     constructor
     · intro z b hb
       obtain ⟨j,hj,rfl⟩:=ygi.mp hb
       have:=z j (ybk.mpr hj)
       rw [yci,ycj hj] at this
       exact this
     · intro z j hj
       have hj:=ybk.mp hj
       rw [yci,ycj hj]
       exact z _ (ydp hj)
   rw [e]
   refine ⟨.bl _,H,I.kept fun b o z=>?_,rfl,q⟩
   refine hk b o (fun hm=>?_) (ydu _ z)
   have l1:=ydv z
   have e1:b=s.heap.objs.size:=by simpa using hm
   rw [e1] at l1
   exact absurd l1 (yen _)
end
end L2
namespace L2
open PySem PySem.Spec PyProof.Rows
def qcu (v:Nat→Str):Nat→List Str
 | 0=>[]
 | i+1=>if (qcu v i).any (·==v i) then qcu v i else qcu v i++[v i]
def qnk (v:Nat→Str) (i:Nat) (k:Str):(qcu v (i+1)).any (·==k)=((qcu v i).any (·==k)||decide (k=v i)):=by
 show (if (qcu v i).any (·==v i) then qcu v i else qcu v i++[v i]).any (·==k)=_
 by_cases c:(qcu v i).any (·==v i)=true
 · rw [if_pos c]
   by_cases e:k=v i
   · rw [e,c];rfl
   · rw [decide_eq_false e,yel]
 · rw [if_neg c,List.any_append]
   congr 1
   simp only [yfk,List.any_nil,yel]
   rw [yay,beq_iff_eq,decide_eq_true_eq]
   exact eq_comm
def qgU (v:Nat→Str) (i:Nat):(qcu v (i+1)).length=if (qcu v i).any (·==v i) then (qcu v i).length else (qcu v i).length+1:=by
 show (if (qcu v i).any (·==v i) then qcu v i else qcu v i++[v i]).length=_
 split
 · rfl
 · simp
def qlY (v:Nat→Str):∀i,(qcu v i).length≤i
 | 0=>yba _
 | i+1=>by
   rw [qgU]
   have:=qlY v i
   split<;>omega
section
variable {prog:Program} {w:World} {A:Around} {R:Result→Shared→Prop} {I:Addr} {fp wr:List Addr} {G:Array GenState→Array GenState→Prop} {n:Nat} {P:Nat→Value→Prop} {St:Nat→Shared→Prop}
def qnw (W:WalksS prog w A.in1 I fp wr G n P St) (a:Addr) (na:a∉fp) (val:Nat→Str) (hv:∀i v,P i v→∃t,v = .str (val i) t) (few:n+1<scanBound) :
   ∀(k i:Nat) (s:Shared),n-i=k→i≤n→St i s→s.heap.SetOf (PySem.strKind prog w) a (fun x=>(qcu val i).any (·==x)) (qcu val i).length →
     (∀s',Moved (a::wr) G s s'→s'.heap.SetOf (PySem.strKind prog w) a (fun x=>(qcu val n).any (·==x)) (qcu val n).length→R (.ok (.ret .none)) s') →
     codeAny (model prog w) A (.builtin "set.update.loop" ⟨[.ref a,.ref I],[]⟩) R s:=by
 have nw:a∉wr:=fun z=>na (W.sub _ z)
 have qjW:∀b∈wr,b∈a::wr:=fun b z=>ybh _ z
 have keepS:∀{j:Nat} {s s':Shared},Moved wr G s s'→s.heap.SetOf (PySem.strKind prog w) a (fun x=>(qcu val j).any (·==x)) (qcu val j).length→s'.heap.SetOf (PySem.strKind prog w) a (fun x=>(qcu val j).any (·==x)) (qcu val j).length:=fun {j s s'} mv z=>by
   obtain ⟨o,es,ep,t,ho,rr⟩:=z
   exact ⟨o,es,ep,t,mv.heap a _ nw ho,rr⟩
 intro k
 induction k with
 | zero =>
   intro i s hk hi hst hS hR
   obtain rfl:i=n:=by omega
   refine codeAny_builtin F.entry_set_update_loop ?_
   rw [Around.under_plainId F.plain_set_update_loop _]
   refine (wpAny_bind (m:=pyNext (.ref I)) (W.done s _ _ hst fun s' mv=>?_))
   exact wpAny_pure (hR s' (mv.mono qjW) (keepS mv hS))
 | succ k ih =>
   intro i s hk hi hst hS hR
   have lt:i<n:=by omega
   refine codeAny_builtin F.entry_set_update_loop ?_
   rw [Around.under_plainId F.plain_set_update_loop _]
   refine (wpAny_bind (m:=pyNext (.ref I)) (W.item i s _ _ lt hst fun v s' pv st' mv=>?_))
   obtain ⟨t,rfl⟩:=hv i v pv
   have hS1:=keepS mv hS
   refine wpAny_bind (m:=holding [Value.str (val i) t] (setAdd a (.str (val i) t))) (wpAny_holding ?_)
   unfold setAdd
   refine (wpAny_holding ?_)
   have isv:(PySem.strKind prog w).is (val i) (.str (val i) t)=true:=strKind_is _ _ _ _
   refine wpAny_bind ((PySem.strKind prog w).pyHash (k:=val i) isv ?_)
   refine wpAny_setAddHashed_of (knd:=PySem.strKind prog w) (s:={ s' with toks:=s'.toks+1 }) isv rfl hS1 (by have:=qlY val i;omega) fun h' sb hS2=>?_
   have hS3:h'.SetOf (PySem.strKind prog w) a (fun x=>(qcu val (i+1)).any (·==x)) (qcu val (i+1)).length:=SetOf_congr hS2 (fun x=>(qnk val i x).symm) (qgU val i).symm
   refine wpAny_pure ⟨plainId_quiet F.plain_set_update_loop _,ih (i+1) _ (by omega) lt (W.frame _ s' _ _ st' (ycw _) fun b hb o e=>?_) hS3 fun s2 mv2 hS4=>?_⟩
   · exact (sb.2 b (fun z:b=a=>na (z▸hb))).trans e
   · refine hR s2 (Moved.trans W.gtrans ((mv.mono qjW).then_heap (ycw _) fun b o hb e=>?_) mv2) hS4
     exact (sb.2 b (fun z:b=a=>hb (by rw [z];exact ybe))).trans e
end
def qmD:∀{vs:List Value} {ys:List Str},StrsAre vs ys→∀(i:Nat) (v:Value),vs[i]?=some v→∃t,v = .str (ys.getD i Str.empty) t
 | _,_,.nil,i,v,h=>by simp at h
 | _,_,.cons y t r,0,v,h=>by cases h;exact ⟨t,rfl⟩
 | _,_,.cons y t r,i+1,v,h=>qmD r i v (by simpa using h)
section
variable {prog:Program} {w:World} {A:Around} {E:Value→Shared→Prop} {s:Shared}
abbrev es0 (led:Bool):Obj:={ cls := .type "set",dict:=none,data := .set #[] 0 (.fresh 0 0 led) }
set_option maxHeartbeats 3200000 in
def qn7 {l:Addr} {items:Array Value} {ys:List Str} {Q:Value→Shared→Prop} (hh:A.handled=none) (hl:s.heap.IsList l items) (hi:StrsAre items.toList ys) (few:items.size+1<scanBound)
   (k:∀(h':Heap) (tk:Nat),h'.SetOf (PySem.strKind prog w) s.heap.objs.size (fun x=>(qcu (fun i=>ys.getD i Str.empty) items.size).any (·==x)) (qcu (fun i=>ys.getD i Str.empty) items.size).length →
     (∀b o,b<s.heap.objs.size→s.heap.get? b=some o→h'.get? b=some o)→Q (.ref s.heap.objs.size) { s with heap:=h',toks:=tk }) :
   wpAny (model prog w) A (call (.type "set") [.ref l]) Q E s:=by
 obtain ⟨c,tl,hmro⟩:=(F.called_set.mro)
 have k1:=F.called_set.made
 have k2:=F.called_set.sub
 refine (wpAny_call (codeAny_of_tree ?_))
 show wpAny _ _ (callAny (.type "set") _) _ _ s
 refine (wpAny_pure ⟨Code.quiet_builtin _ (by decide +kernel),codeAny_builtin F.entry_type_call ?_⟩)
 rw [Around.under_plain (weight_type_call_type "set" [.ref l] []) rfl]
 have k3:=F.called_set.notType
 have k4:=F.called_set.canCreate
 have k5:=F.typeCall_set_1 (.ref l)
 repeat (any_goals (first | assumption | wp_step))
 refine codeAny_mono (code_set_new_1 (.ref l) (E:=E) (Q₁:=fun ob s1=>∃led:Bool,ob = .ref s.heap.objs.size∧s1={ s with heap:=s.heap.push (es0 led) }) fun led=>⟨led,rfl,rfl⟩) fun r s1 hr=>?_
 cases r with
 | error e=>exact hr
 | ok fl =>
   cases fl with
   | ret ob =>
     obtain ⟨led,rfl,rfl⟩:=hr
     have at0:(s.heap.push (es0 led)).get? s.heap.objs.size=some (es0 led):=ydt _ rfl
     have ty0:Shared.TypeIs { s with heap:=s.heap.push (es0 led) } (.ref s.heap.objs.size) "set" := ⟨_,at0,rfl⟩
     have k6:=F.called_set.init.lookup
     have k7:=F.called_set.init.bind (.ref s.heap.objs.size)
     repeat (any_goals (first | assumption | wp_step))
     refine codeAny_mono (codeAny_call_builtin (R:=wants (fun r s2=>r = .none∧∃h' tk,s2={ s with heap:=h',toks:=tk } ∧
         h'.SetOf (PySem.strKind prog w) s.heap.objs.size (fun x=>(qcu (fun i=>ys.getD i Str.empty) items.size).any (·==x)) (qcu (fun i=>ys.getD i Str.empty) items.size).length ∧
         (∀b o,b<s.heap.objs.size→s.heap.get? b=some o→h'.get? b=some o)) E) F.called_set.init.plain F.entry_set_init (check_set_init_1 ty0 ?_)) fun r2 s2 hr2=>?_
     · obtain ⟨ol,at1,c1,nl,d1⟩:=hl
       obtain ⟨o1,o2,o3,o4⟩:=ol
       simp only at c1 d1
       subst c1
       subst d1
       have at2:(s.heap.push (es0 led)).get? l=some { cls := .type "list",dict:=o2,data := .seq items nl,slots:=o4 }:=ydu _ at1
       have k8:=F.sub_list_set
       have k9:=F.sub_list_frozenset
       have k10:(Value.type "list" == Value.type "dict")=false:=by decide
       have il:(s.heap.push (es0 led)).IsList l items:=⟨_,at2,rfl,nl,rfl⟩
       unfold Builtin.«set.__init__» noKeywords Builtin.Frozenset.updateFrom
       generalize gPI:pyIter=PI
       wp_walk
       subst gPI
       refine (wpAny_pyIter_list il ?_)
       refine (wpAny_bind (wpAny_runValue ?_))
       have l0:l<s.heap.objs.size:=ydv at1
       have h3:A.in1.in1.in1.handled=none:=by simp [hh]
       have n1:l≠(s.heap.push (es0 led)).objs.size:=by
         rw [ydw]
         exact ydx (ydy l0)
       have n2:s.heap.objs.size∉[(s.heap.push (es0 led)).objs.size,l]:=by
         rw [ydw]
         simp only [ybg,yei,ydz,or_false,not_or]
         exact ⟨ydx (ycx _),yea l0⟩
       refine qnw ((Walks.list h3 _ l n1 items).toS) s.heap.objs.size n2 (fun i=>ys.getD i Str.empty) (fun i v hv=>qmD hi i v (by rw [yda];exact hv)) few (items.size-0) 0 _ (by omega) (ybz _)
         ⟨⟨_,ydt _ rfl,rfl,rfl⟩,(il.push _)⟩ ?h0 ?hR
       case h0=>exact SetOf_congr ((setObjOf_fresh (knd:=PySem.strKind prog w) led).setOf (ydu _ at0) (by unfold scanBound;omega)) (fun _=>rfl) rfl
       case hR =>
         intro s' mv hS'
         obtain ⟨h',g',d',tk',os'⟩:=s'
         cases (show g'=s.gens from mv.gens)
         cases (show d'=s.drawn from mv.drawn)
         cases (show os'=s.os from mv.os)
         refine (wpAny_pure ?_)
         show wpAny _ _ (ret Value.none) _ _ _
         refine wpAny_pure ⟨rfl,h',tk',rfl,hS',fun b o hb e=>mv.heap b o ?_ (ydu _ (ydu _ e))⟩
         simp only [ybg,yei,ydz,or_false,not_or]
         exact ⟨ydx hb,by rw [ydw];exact ydx (ydy hb)⟩
     · cases r2 with
       | error e=>exact hr2
       | ok fl2 =>
         cases fl2 with
         | ret r =>
           obtain ⟨rfl,h',tk,rfl,z1,z2⟩:=hr2
           repeat (any_goals (first | assumption | wp_step))
           exact k _ _ z1 z2
         | _=>exact hr2.elim
   | _=>exact hr.elim
end
def cnt (ys:List Str):Nat:=(qcu (fun i=>ys.getD i Str.empty) ys.length).length
abbrev SsO (P:Program) (w:World) (a:Addr) (n:Nat):HO := .ext fun h=>∃S:Str→Bool,h.SetOf (PySem.strKind P w) a S n
section
variable {X:Cx} {P:Program} {w:World} {K:PySem.W.Frag}
def qtI (P:Program) (w:World) (K:PySem.W.Frag):List V→Hp→VK→Prop:=fun xs H Q=>∃(l:Addr) (ys:List Str),xs=[.ref l]∧SqL K H l (sV ys)∧ys.length≤1000∧∀p,H p=none→Q (.ref p) (upd H p (SsO P w p (cnt ys)))
def qmw (hP:X.prog=P) (hw:X.w=w) (hK:X.K=K) (hc:X.calm=true):qb7 X (.type "set") (qtI P w K):=by
 subst hP hw hK
 intro pins s σ H xs us Q I r h
 obtain ⟨l,ys,rfl,hq,hn,q⟩:=h
 obtain ⟨u,rfl,ru⟩:=qb6 r
 cases (show u=Value.ref l from ru)
 obtain ⟨its,rv,p,hz⟩:=I.list hq
 have hi:=qgr rv
 have hl:=StrsAre.len hi
 refine qn7 (I.ok.hd hc) p.isList (ys:=ys) (by simpa using hi) (by rw [yfh,hl];unfold scanBound;omega) fun h' tk hS kp=>?_
 have hS2:h'.SetOf (PySem.strKind X.prog X.w) s.heap.objs.size (fun x=>(qcu (fun i=>ys.getD i Str.empty) ys.length).any (·==x)) (cnt ys):=by
   have hsz:its.toArray.size=ys.length:=by rw [yfh,hl]
   rw [hsz] at hS
   exact hS
 refine ⟨.ref s.heap.objs.size,_,I.laid (o:=SsO X.prog X.w s.heap.objs.size (cnt ys)) (fun b o e=>kp b o (ydv e) e) (yba _) ⟨⟨_,hS2⟩,?_,fun h1 h2 ⟨S,z⟩ kk=>?_⟩,rfl,q _ I.fresh⟩
 · obtain ⟨o,_,_,_,e,_⟩:=hS2
   exact ⟨o,e⟩
 · obtain ⟨o,es,ep,t,e,rr⟩:=z
   exact ⟨S,o,es,ep,t,kk o e,rr⟩
def qt6 (P:Program) (w:World):List V→Hp→VK→Prop:=fun xs H Q=>∃(p:Addr) (n:Nat),xs=[.ref p]∧H p=some (SsO P w p n)∧n≤1000∧Q (.int (n:Nat)) H
def qmC (hP:X.prog=P) (hw:X.w=w):qb7 X (.builtin "len") (qt6 P w):=by
 subst hP hw
 intro pins s σ H xs us Q I r h
 obtain ⟨p,n,rfl,e,hn,q⟩:=h
 obtain ⟨u,rfl,ru⟩:=qb6 r
 cases (show u=Value.ref p from ru)
 obtain ⟨S,o,es,ep,t,e1,e2,e3,e4,e5,e6,e7,e8⟩:=(show qbl X.prog X.w H s.heap p (SsO X.prog X.w p n) from I.hok p _ e).1
 have hs:es.size=n:=e8
 exact call_len_set e1 e2 e3 e7 (by omega) ⟨.int (n:Nat),H,I.tok _,⟨_,by rw [hs]⟩,q⟩
end
def qcA {X:Cx} {x z:Str} {p:Pos} (h:∃t,X.mg x=some (.str z t)) (hg:Gl X x) (hd:(x==("__debug__" : Str))=false:=by decide):PE X (.Name x p) (tC (.str z)):=by
 obtain ⟨t,h⟩:=h
 exact qd8 hg h ⟨t,rfl⟩ hd
def qnK {D:qf2} {σ:St} {H:Hp} {c:TT} {u:TS}:qmS (qsb c qpD qlP) u D σ H↔c σ H fun b H1=>if b=true then False else u D σ H1:=Iff.rfl
end L2
namespace Tx
open PySem
abbrev sg (z:Str):List Nat:=z.cps.toList
def ext {a b:Str} (h:sg a=sg b):a=b:=by
 obtain ⟨a⟩:=a
 obtain ⟨b⟩:=b
 have:a=b:=Array.toList_inj.mp h
 rw [this]
def sg_app (a b:Str):sg (a++b)=sg a++sg b:=by
 show (a.cps++b.cps).toList=_
 simp
def jn (c:Nat):List (List Nat)→List Nat
 | []=>[]
 | [x]=>x
 | x::y::r=>x++c::jn c (y::r)
def sg_join (c:Nat):∀ys:List Str,sg (Str.join ⟨#[c]⟩ ys)=jn c (ys.map sg)
 | []=>rfl
 | [x]=>rfl
 | x::y::r=>by
   show sg (x++⟨#[c]⟩++Str.join ⟨#[c]⟩ (y::r))=sg x++c::jn c ((y::r).map sg)
   rw [sg_app,sg_app,sg_join c (y::r),ydk]
   rfl
def jn_cons {c:Nat} {x:List Nat} {r:List (List Nat)} (h:r≠[]):jn c (x::r)=x++c::jn c r:=by
 cases r with
 | nil=>exact absurd rfl h
 | cons y r=>rfl
def qpw {c:Nat}:∀{x y a b:List Nat},c∉x→c∉y→x++c::a=y++c::b→x=y∧a=b
 | [],[],a,b,_,_,h=>⟨rfl,by simpa using h⟩
 | [],q::y,a,b,_,hy,h=>by
   have:=List.cons.inj h
   exact absurd (this.1▸ybe) hy
 | p::x,[],a,b,hx,_,h=>by
   have:=List.cons.inj h
   exact absurd (this.1▸ybe) hx
 | p::x,q::y,a,b,hx,hy,h=>by
   have h:=List.cons.inj h
   obtain ⟨e1,e2⟩:=qpw (fun z=>hx (ybh _ z)) (fun z=>hy (ybh _ z)) h.2
   exact ⟨by rw [h.1,e1],e2⟩
def qpp {c:Nat}:∀{xs ys:List (List Nat)},xs≠[]→ys≠[]→(∀x∈xs,c∉x)→(∀y∈ys,c∉y)→jn c xs=jn c ys→xs=ys
 | [],_,h,_,_,_,_=>absurd rfl h
 | _,[],_,h,_,_,_=>absurd rfl h
 | [x],[y],_,_,_,_,h=>by rw [show x=y from h]
 | [x],y::q::r,_,_,hx,hy,h=>by
   have h:x=y++c::jn c (q::r):=h
   exact absurd (by rw [h];simp) (hx x ybe)
 | x::p::s,[y],_,_,hx,hy,h=>by
   have h:x++c::jn c (p::s)=y:=h
   exact absurd (by rw [←h];simp) (hy y ybe)
 | x::p::s,y::q::r,_,_,hx,hy,h=>by
   have h:x++c::jn c (p::s)=y++c::jn c (q::r):=h
   obtain ⟨e1,e2⟩:=qpw (hx x ybe) (hy y ybe) h
   rw [e1,qpp (by simp) (by simp) (fun z hz=>hx z (ybh _ hz)) (fun z hz=>hy z (ybh _ hz)) e2]
def txt_join (c:Nat) (ys:List Str):sg (Txt.join ⟨#[c]⟩ ys)=jn c (ys.map sg):=by
 rw [show Txt.join ⟨#[c]⟩ ys=Str.join ⟨#[c]⟩ ys from StrLaws.glued_eq_join _ _,sg_join]
def qpz:∀{a b:List Str},a.map sg=b.map sg→a=b
 | [],[],_=>rfl
 | [],_::_,h=>by cases h
 | _::_,[],h=>by cases h
 | x::a,y::b,h=>by
   have h:=List.cons.inj h
   rw [ext h.1,qpz h.2]
def split_join {c:Nat} {ws:List Str} (h0:ws≠[]) (h:∀w∈ws,c∉sg w):Txt.split (Txt.join ⟨#[c]⟩ ws) ⟨#[c]⟩=ws:=by
 have e1:=StrLaws.join_split (Txt.join ⟨#[c]⟩ ws) ⟨#[c]⟩
 have e2:=congrArg sg e1
 rw [sg_join,txt_join] at e2
 have fr:=StrLaws.split_free (Txt.join ⟨#[c]⟩ ws) c
 refine qpz (qpp (c:=c) (fun z=>?_) (fun z=>h0 (ygo.mp z)) (fun x hx=>?_) (fun x hx=>?_) e2)
 · have:=PyProof.Rows.split_pos (Txt.join ⟨#[c]⟩ ws) ⟨#[c]⟩
   rw [ygo.mp z] at this
   exact absurd this (by decide)
 · obtain ⟨p,hp,rfl⟩:=ybt.mp hx
   exact fr p hp
 · obtain ⟨p,hp,rfl⟩:=ybt.mp hx
   exact h p hp
def jn_mem {c d:Nat}:∀{xs:List (List Nat)},d∈jn c xs→d=c∨∃x∈xs,d∈x
 | [],h=>by cases h
 | [x],h => .inr ⟨x,ybe,h⟩
 | x::y::r,h=>by
   have h:d∈x++c::jn c (y::r):=h
   rcases yaw.mp h with z | z
   · exact .inr ⟨x,ybe,z⟩
   · rcases ybg.mp z with z | z
     · exact .inl z
     · rcases jn_mem z with w | ⟨q,w1,w2⟩
       · exact .inl w
       · exact .inr ⟨q,ybh _ w1,w2⟩
def jn_len {c M:Nat}:∀{xs:List (List Nat)},(∀x∈xs,x.length≤M)→(jn c xs).length≤xs.length*(M+1)
 | [],_=>ybz _
 | [x],h=>by
   have:=h x ybe
   show x.length≤1*(M+1)
   omega
 | x::y::r,h=>by
   have h1:=h x ybe
   have h2:=jn_len (c:=c) (M:=M) (xs:=y::r) fun z hz=>h z (ybh _ hz)
   show (x++c::jn c (y::r)).length≤_
   rw [ydq,ycb]
   have e:(x::y::r).length*(M+1)=(y::r).length*(M+1)+(M+1):=by rw [ycb (a:=x),Nat.add_mul,ygs]
   rw [e]
   omega
def Wd (w:Str):Prop:=1≤w.length∧w.length≤8∧∀c∈sg w,97≤c∧c≤122
def Wd.free {w:Str} (h:Wd w) {c:Nat} (hc:c<97):c∉sg w:=fun z=>by
 have:=(h.2.2 c z).1
 omega
def len_sg (w:Str):(sg w).length=w.length:=by simp [sg,Str.length]
structure Wds (ws:List Str):Prop where
 few:ws.length≤8
 nd:ws.Nodup
 wd:∀w∈ws,Wd w
 no:("none" : Str)∉ws
def lit_plus:("+" : Str)=⟨#[43]⟩:=by decide +kernel
def lit_space:(" " : Str)=⟨#[32]⟩:=by decide +kernel
def lit_dash:("-" : Str)=⟨#[45]⟩:=by decide +kernel
def qeW:("none" : Str)=⟨#[110,111,110,101]⟩:=by decide +kernel
def lit_empty:("" : Str)=⟨#[]⟩:=by decide +kernel
def wds (ws:List Str) (a:Nat):List Str:=(Fam.nms 8 a).map fun k=>ws.getD k Str.empty
def sT (ws:List Str) (a:Nat):Str:=if a=0 then "-" else Txt.join "+" (wds ws a)
def fT (ws:List Str) (fs:List Nat):Str:=if fs=[] then "none" else Txt.join " " (fs.map (sT ws))
def qnx:∀a,a<256→Fam.nms 8 a=[]→a=0:=by decide +kernel
section
variable {ws:List Str} {a:Nat}
def nms_lt (ha:a<2^ws.length) {k:Nat} (hk:k∈Fam.nms 8 a):k<ws.length:=by
 have hb:=(Fam.mem_nms.mp hk).2
 rcases yah k ws.length with c | c
 · exact c
 · rw [yae (yaf ha (yag (by decide) c))] at hb
   cases hb
def wds_mem (h:Wds ws) (ha:a<2^ws.length) {w:Str} (hw:w∈wds ws a):w∈ws:=by
 obtain ⟨k,hk,rfl⟩:=ybt.mp hw
 have hl:=nms_lt ha hk
 rw [yci,ycj hl]
 exact ydp hl
def lt256 (h:Wds ws) (ha:a<2^ws.length):a<256:=yaf ha (yag (n:=2) (by decide) h.few)
def wds_ne (h:Wds ws) (ha:a<2^ws.length) (h0:a≠0):wds ws a≠[]:=fun z=>h0 (qnx a (lt256 h ha) (ygo.mp z))
def split_sT (h:Wds ws) (ha:a<2^ws.length):Txt.split (sT ws a) "+" = if a=0 then [("-" : Str)] else wds ws a:=by
 rw [lit_plus]
 unfold sT
 by_cases c:a=0
 · rw [if_pos c,if_pos c]
   have:Txt.split (Txt.join ⟨#[43]⟩ [("-" : Str)]) ⟨#[43]⟩=[("-" : Str)]:=split_join (by simp) fun w hw=>by
     rw [yei.mp hw,lit_dash]
     decide
   exact this
 · rw [if_neg c,if_neg c,lit_plus]
   exact split_join (wds_ne h ha c) fun w hw=>(h.wd w (wds_mem h ha hw)).free (by decide)
def sT_free (h:Wds ws) (ha:a<2^ws.length):32∉sg (sT ws a):=by
 unfold sT
 by_cases c:a=0
 · rw [if_pos c,lit_dash]
   decide
 · rw [if_neg c,lit_plus,txt_join]
   intro z
   rcases jn_mem z with e | ⟨x,hx,hz⟩
   · exact absurd e (by decide)
   · obtain ⟨w,hw,rfl⟩:=ybt.mp hx
     exact (h.wd w (wds_mem h ha hw)).free (by decide) hz
def sT_len (h:Wds ws) (ha:a<2^ws.length):(sT ws a).length≤72:=by
 unfold sT
 by_cases c:a=0
 · rw [if_pos c,lit_dash]
   decide
 · rw [if_neg c,←len_sg,lit_plus,txt_join]
   have h1:=jn_len (c:=43) (M:=8) (xs:=(wds ws a).map sg) fun x hx=>by
     obtain ⟨w,hw,rfl⟩:=ybt.mp hx
     rw [len_sg]
     exact (h.wd w (wds_mem h ha hw)).2.1
   have h2:((wds ws a).map sg).length≤8:=by
     rw [ycd]
     unfold wds Fam.nms
     rw [ycd]
     exact ydc (ygc _ _) (by simp)
   exact ydc h1 (ygt h2 (yba 9))
def sT_none (h:Wds ws) (ha:a<2^ws.length):sT ws a ≠ "none" := by
 unfold sT
 by_cases c:a=0
 · rw [if_pos c]
   decide +kernel
 · rw [if_neg c]
   intro z
   have hm:=fun w hw=>wds_mem h ha (w:=w) hw
   have ne:=wds_ne h ha c
   have e:=congrArg sg z
   rw [lit_plus,txt_join,qeW] at e
   cases hw:wds ws a with
   | nil=>exact ne hw
   | cons x r =>
     cases r with
     | nil =>
       rw [hw] at e
       have ex:x = "none" := by
         rw [qeW]
         exact ext e
       exact h.no (ex▸hm x (by rw [hw];exact ybe))
     | cons y r =>
       rw [hw] at e
       have e:sg x++43::jn 43 ((y::r).map sg)=[110,111,110,101]:=e
       have:43∈[110,111,110,101]:=by
         rw [←e]
         simp
       exact absurd this (by decide)
def split_fT (h:Wds ws) {fs:List Nat} (hb:∀b∈fs,b<2^ws.length):Txt.split (fT ws fs) " " = if fs=[] then [("none" : Str)] else fs.map (sT ws):=by
 rw [lit_space]
 unfold fT
 by_cases c:fs=[]
 · rw [if_pos c,if_pos c]
   have:Txt.split (Txt.join ⟨#[32]⟩ [("none" : Str)]) ⟨#[32]⟩=[("none" : Str)]:=split_join (by simp) fun w hw=>by
     rw [yei.mp hw,qeW]
     decide
   exact this
 · rw [if_neg c,if_neg c,lit_space]
   refine split_join (fun z=>c (ygo.mp z)) fun w hw=>?_
   obtain ⟨b,hb',rfl⟩:=ybt.mp hw
   exact sT_free h (hb b hb')
def fT_len (h:Wds ws) {fs:List Nat} (hb:∀b∈fs,b<2^ws.length) (hn:fs.length≤100):(fT ws fs).length≤7300:=by
 unfold fT
 by_cases c:fs=[]
 · rw [if_pos c,qeW]
   decide
 · rw [if_neg c,←len_sg,lit_space,txt_join]
   have h1:=jn_len (c:=32) (M:=72) (xs:=(fs.map (sT ws)).map sg) fun x hx=>by
     obtain ⟨w,hw,rfl⟩:=ybt.mp hx
     obtain ⟨b,hb',rfl⟩:=ybt.mp hw
     rw [len_sg]
     exact sT_len h (hb b hb')
   rw [ycd,ycd] at h1
   exact ydc h1 (ygt hn (yba 73))
def idx_wds (h:Wds ws) (ha:a<2^ws.length):(wds ws a).map (fun w=>ws.idxOf w)=Fam.nms 8 a:=by
 unfold wds
 rw [ycv]
 have:∀k∈Fam.nms 8 a,((fun w=>ws.idxOf w) ∘ fun k=>ws.getD k Str.empty) k=k:=fun k hk=>by
   have hl:=nms_lt ha hk
   show ws.idxOf (ws.getD k Str.empty)=k
   rw [yci,ycj hl,Option.getD_some]
   exact h.nd.idxOf_getElem k hl
 rw [ych this,List.map_id']
end
end Tx
namespace L2
open PySem PySem.Spec PyProof.Rows
def qc9 (ys:List Str):(sV ys).all qbz=true:=by
 rw [ybi]
 intro x hx
 obtain ⟨z,_,rfl⟩:=ybt.mp hx
 rfl
def qhE (a b:List Str):qgb (sV a) (sV b)=decide (a=b):=by
 unfold qgb
 rw [ycd,ycd]
 by_cases hl:a.length=b.length
 · rw [show (a.length==b.length)=true by simpa using hl,yfw]
   rw [yay,ybi,decide_eq_true_eq]
   constructor
   · intro h
     refine yej hl fun i h1 h2=>?_
     have q:=h i (ybk.mpr h1)
     simpa [List.getD,h1,h2,eqV] using q
   · rintro rfl j hj
     have hj':=ybk.mp hj
     simp [List.getD,hj',eqV]
 · rw [show (a.length==b.length)=false by simpa using hl,yeu]
   exact (decide_eq_false fun e=>hl (by rw [e])).symm
def quf (w:Str) (ys:List Str):inV (.str w) (sV ys)=decide (w∈ys):=by
 unfold inV
 rw [yay,ybm,decide_eq_true_eq]
 constructor
 · rintro ⟨x,hx,e⟩
   obtain ⟨z,hz,rfl⟩:=ybt.mp hx
   have:z=w:=by simpa [eqV] using e
   exact this▸hz
 · intro h
   exact ⟨.str w,ybt.mpr ⟨w,h,rfl⟩,by simp [eqV]⟩
def qaR (ys:List Str):(sV ys).length=ys.length:=ycd _
def qb8 {ys:List Str} {i:Nat} {w:Str} (h:ys[i]?=some w):atI (sV ys) (i:Int)=some (.str w):=qaz (by rw [yco,h];rfl)
def qlh {M:Nat}:∀{ys:List Str},(∀y∈ys,y.length≤M)→(ys.map (·.length)).sum≤ys.length*M
 | [],_=>ybz _
 | y::ys,h=>by
   rw [ycf,ycg,ycb,Nat.add_mul,ygs]
   have h1:=h y ybe
   have h2:=qlh (M:=M) (ys:=ys) fun z hz=>h z (ybh _ hz)
   omega
def qaD {M N:Nat} {ys:List Str} {sep:Str} (h:∀y∈ys,y.length≤M) (hn:ys.length≤N) (hs:sep.length≤1) (hM:N*(M+1)≤16777216):(ys.map (·.length)).sum+ys.length*sep.length≤16777216:=by
 have h1:=qlh h
 have h2:ys.length*sep.length≤ys.length*1:=Nat.mul_le_mul_left _ hs
 have h3:ys.length*(M+1)≤N*(M+1):=ygn _ hn
 rw [Nat.mul_add] at h3
 omega
def qhd (v:Nat→Str):∀i (w:Str),w∈qcu v i→∃j,j<i∧w=v j
 | 0,w,h=>by cases h
 | i+1,w,h=>by
   have h:w∈if (qcu v i).any (·==v i) then qcu v i else qcu v i++[v i]:=h
   split at h
   · obtain ⟨j,h1,h2⟩:=qhd v i w h
     exact ⟨j,by omega,h2⟩
   · rcases yaw.mp h with z | z
     · obtain ⟨j,h1,h2⟩:=qhd v i w z
       exact ⟨j,by omega,h2⟩
     · exact ⟨i,by omega,yei.mp z⟩
def qsI {ys:List Str} (h:ys.Nodup):cnt ys=ys.length:=by
 have all:∀i,i≤ys.length→(qcu (fun i=>ys.getD i Str.empty) i).length=i:=by
   intro i
   induction i with
   | zero=>intro _;rfl
   | succ i ih =>
     intro hi
     rw [qgU,if_neg,ih (by omega)]
     intro z
     obtain ⟨w,hw,e⟩:=ybm.mp z
     obtain ⟨j,hj,rfl⟩:=qhd _ i w hw
     have e:ys.getD j Str.empty=ys.getD i Str.empty:=by simpa using e
     rw [yci,yci,ycj (by omega),ycj (by omega)] at e
     have:=(yep h).mp (show ys[j]=ys[i] from e)
     omega
 exact all ys.length (yba _)
def qod {z:Str} (h:Tx.Wd z):z.cps.all (· < 128)=true:=by
 rw [←Array.all_toList,ybi]
 intro c hc
 have:=h.2.2 c hc
 exact decide_eq_true (by omega)
def quL {x:Nat} (h:97≤x):(!decide ((⟨#[x]⟩:Str).cps.toList<("a" : Str).cps.toList))=true:=by
 have e:("a" : Str).cps.toList=[97]:=by decide +kernel
 rw [e]
 show (!decide ([x] < [97]))=true
 rw [StrLaws.lt_cons_cons,StrLaws.lt_nil_nil,decide_eq_false (by omega)]
 simp
def quT {x:Nat} (h:x≤122):(!decide (("z" : Str).cps.toList<(⟨#[x]⟩:Str).cps.toList))=true:=by
 have e:("z" : Str).cps.toList=[122]:=by decide +kernel
 rw [e]
 show (!decide ([122] < [x]))=true
 rw [StrLaws.lt_cons_cons,StrLaws.lt_nil_nil,decide_eq_false (by omega)]
 simp
def tx (c:Nat) (ys:List Str):Str:=⟨((ys.map fun y=>c::Tx.sg y).flatten).toArray⟩
def qsF {m a:Nat} (hm:m≤8) (ha:a<2^m):Fam.nms m a=Fam.nms 8 a:=by
 obtain ⟨d,e⟩:∃d,8=m+d:=⟨8-m,by omega⟩
 rw [show Fam.nms 8 a=Fam.nms (m+d) a from by rw [←e]]
 unfold Fam.nms
 rw [yct,yax]
 have:((List.range d).map (m + ·)).filter (fun k=>a.testBit k)=[]:=by
   rw [ygu]
   intro k hk
   obtain ⟨j,_,rfl⟩:=ybt.mp hk
   rw [yae (yaf ha (yag (by decide) (Nat.le_add_right m j)))]
   simp
 rw [this,yed]
end L2
namespace L2
open PySem PySem.Spec PyProof.Rows
abbrev abc:Str := "abcdefghijklmnopqrstuvwxyz"
def qm5:∀i,i<26→abc.cps[i]?=some (97+i):=by decide +kernel
def qjc:abc.length=26:=by decide +kernel
def Ls (z:Str):Prop:=∀c∈Tx.sg z,97≤c∧c≤122
def qbu {α:Type} (L:List α) (g:α→Str):L.map (fun k=>V.str (g k))=sV (L.map g):=by
 show _=List.map V.str (List.map _ _)
 rw [ycv]
 rfl
def qjr:∀ys:List Str,Tx.sg (Str.join ⟨#[]⟩ ys)=(ys.map Tx.sg).flatten
 | []=>rfl
 | [x]=>by simp [Str.join]
 | x::y::r=>by
   show Tx.sg (x++⟨#[]⟩++Str.join ⟨#[]⟩ (y::r))=_
   rw [Tx.sg_app,Tx.sg_app,qjr (y::r),ycf,yfm]
   simp [Tx.sg]
def qdR (ys:List Str):Tx.sg (Txt.join ("" : Str) ys)=(ys.map Tx.sg).flatten:=by
 rw [Tx.lit_empty,show Txt.join ⟨#[]⟩ ys=Str.join ⟨#[]⟩ ys from StrLaws.glued_eq_join _ _,qjr]
def qrl {ys:List Str} (h:∀y∈ys,∃c,y=⟨#[c]⟩∧97≤c∧c≤122):(Txt.join ("" : Str) ys).length=ys.length∧Ls (Txt.join ("" : Str) ys):=by
 constructor
 · rw [←Tx.len_sg,qdR]
   induction ys with
   | nil=>rfl
   | cons y ys ih =>
     obtain ⟨c,rfl,_⟩:=h y ybe
     rw [ycf,yfm,ydq,ih fun z hz=>h z (ybh _ hz),ycb]
     show 1+ys.length=ys.length+1
     omega
 · intro c hc
   rw [qdR] at hc
   obtain ⟨l,hl,hc⟩:=ygj.mp hc
   obtain ⟨y,hy,rfl⟩:=ybt.mp hl
   obtain ⟨d,rfl,h1,h2⟩:=h y hy
   rw [show c=d from by simpa [Tx.sg] using hc]
   exact ⟨h1,h2⟩
def qfa {z:Str} {lo hi:Option Int}:∀c∈Tx.sg (Txt.slice z lo hi),c∈Tx.sg z:=by
 intro c hc
 unfold Txt.slice at hc
 split at hc
 · exact hc
 · have hc:c∈(Builtin.Str.strSliceIndices lo hi 1 z.length).filterMap (z.cps[·]?):=by simpa [Tx.sg] using hc
   obtain ⟨i,_,e⟩:=ydo.mp hc
   have:(Tx.sg z)[i]?=some c:=by simpa [Tx.sg] using e
   exact yck this
def qjG {z:Str} (h:Ls z) {lo hi:Option Int}:Ls (Txt.slice z lo hi):=fun c hc=>h c (qfa c hc)
def qrt {z:Str} {j:Nat} (h:j≤z.length):(Txt.slice z none (some (j:Int))).length=j:=by
 have:=beq_iff_eq.mp (slice_closes_to (x:=z) (j:=(j:Int)) ⟨by omega,by rw [show z.cps.toList.length=z.length from Tx.len_sg z];omega⟩)
 rw [this,←Tx.len_sg]
 show ((z.cps.toList.drop _).take _).length=j
 rw [yfb,ydg,show z.cps.toList.length=z.length from Tx.len_sg z]
 simp<;>omega
def qoq {z:Str} {i:Nat} (h:i≤z.length):(Txt.slice z (some (i:Int)) none).length=z.length-i:=by
 rw [slice_from_eq (b:=z.length) (by omega) (by omega) rfl,←Tx.len_sg]
 show ((z.cps.toList.drop _).take _).length=_
 rw [yfb,ydg,show z.cps.toList.length=z.length from Tx.len_sg z]
 simp<;>omega
structure Gd (L:List Str):Prop where
 few:L.length≤8
 wd:∀w∈L,Tx.Wd w
 hd:∃w,L[0]?=some w∧w.length≠4
end L2
namespace Fly
open PySem
structure qvf (fs ch:List Addr) (h h':Heap):Prop where
 keep:∀b o,h.get? b=some o→b∉fs→b∉ch→h'.get? b=some o
 slot:∀b o,h.get? b=some o→b∈fs→b∉ch→∃sl,h'.get? b=some { o with slots:=sl }
def At (h:Heap) (e T:Addr) (cls fl:Value):Prop :=
 T≠e∧∃oe vs oT ts,h.get? e=some oe∧oe.cls=cls∧oe.data = .fields vs∧vs[1]?=some (.ref T)∧h.get? T=some oT∧oT.data = .fields ts∧ts[3]?=some fl
section
variable {M:Model} {A:Around} {E:Value→Shared→Prop} {s:Shared} {base:Heap} {env:Env} {outer:List Env} {L e:Addr}
end
end Fly
namespace Fly
open PySem
abbrev Lk {α:Type} (h:Heap) (t:Sem α) (r:α):Prop:=∀{M:Model} {A:Around} {E:Value→Shared→Prop} {g:Array GenState} {d:Drawn} {tk:Nat} {os:OsState} {Q:α→Shared→Prop},Q r ⟨h,g,d,tk,os⟩→wpAny M A t Q E ⟨h,g,d,tk,os⟩
structure Cl (h:Heap) (C:Addr):Prop where
 ga:Lk h (typeLookup (.ref C) "__getattribute__") (some (.builtin "BaseException.__getattribute__"))
 gt:Lk h (typeLookup (.ref C) "__getattr__") none
 cl:Lk h (typeLookup (.ref C) "__class__") (some (.builtin "object.__class__"))
 be:Lk h (isSubtype (.ref C) (.type "BaseException")) true
 ob:Lk h (isSubtype (.ref C) (.type "object")) true
section
variable {prog:Program} {w:World} {A:Around} {E:Value→Shared→Prop} {h:Heap} {g:Array GenState} {d:Drawn} {t:Nat} {os:OsState} {a C:Addr} {o:Obj}
end
end Fly
namespace L2
open PySem PySem.Spec PyProof.Rows
section
variable {P:Program} {w:World} {H H':Hp} {h h1 h2:Heap} {fs fs' ch:List Addr}
end
def CX1 (P:Program) (w:World):CXT:=fun outer H s E x s'=>∃(e T C:Addr) (H':Hp),x = .ref e∧s'.os=s.os∧AllBare s'.gens∧Un (frs outer) [] H H' s.heap s'.heap∧HOk P w H' s'.heap ∧
 s.heap.get? e=none∧s.heap.get? T=none∧H' e=none∧H' T=none∧Fly.At s'.heap e T (.ref C) .none∧E (.ref C) none H'
section
variable {P:Program} {w:World} {K:PySem.W.Frag} {mg:Str→Option Value} {base:Heap} {N:List Str} {qual:Str} {scope:Scope} {f:Addr} {cd:Value} {A:Around} {outer:List Env} {s0:Shared} {H0:Hp} {E:XK}
 {pins:List (Addr×Obj)} {σ:St} {H:Hp} {s:Shared}
end
section
variable {X:Cx}
variable {pins ps:List (Addr×Obj)} {σ:St} {H:Hp} {s:Shared} {e:Addr}
end
structure qvc (K:PySem.W.Frag) (C:Addr):Prop where
 cls:∃bmB newId,PySem.W.excIn K C bmB newId=true
 ga:PySem.W.findIn K (.ref C) "__getattribute__" = some (some (.builtin "BaseException.__getattribute__"))
 gt:PySem.W.findIn K (.ref C) "__getattr__" = some none
 cl:PySem.W.findIn K (.ref C) "__class__" = some (some (.builtin "object.__class__"))
 be:PySem.W.subIn K (.ref C) (.type "BaseException")=some true
 ob:PySem.W.subIn K (.ref C) (.type "object")=some true
structure qvg (P:Program) (w:World) (K:PySem.W.Frag) (mg:Str→Option Value) (base:Heap) (x:Str) (k:Nat) (ps:List Str) (sp:Sp) (f:Addr) (fd:FuncData):Prop where
 ok:qaQ P w K mg base (CX1 P w) k f fd ps sp
 mg:mg x=some (.ref f)
 kp:PySem.W.keepIn K (.ref f)=true
 bd:qdx K fd ps []
section
variable {K:PySem.W.Frag} {C D:Addr} {b:Bool} {T:String} {cd:ClassData}
end
section
variable {D:qf2} {σ:St} {H:Hp} {u:TS}
end
end L2
namespace Fly
open PySem
section
variable {M:Model} {A:Around} {E:Value→Shared→Prop} {s:Shared} {base:Heap} {env:Env} {outer:List Env} {L e:Addr}
end
end Fly
namespace L2
open PySem PySem.Spec PyProof.Rows
section
variable {X:Cx} {pins:List (Addr×Obj)} {σ:St} {H H':Hp} {s s':Shared}
structure Nw (X:Cx) (pins:List (Addr×Obj)) (H:Hp) (b:Addr):Prop where
 old:X.s₀.heap.get? b=none∨b∈X.ex
 loc:b≠X.env.locals
 cel:∀x c,X.env.cells.lookup x=some c→c≠b
 pin:∀p∈X.pn++pins,p.1≠b
 frm:b∉frs X.stack
 non:H b=none
end
section
variable {X:Cx}
end
end L2
namespace L2
open PySem PySem.Spec PyProof.Rows
section
variable {prog:Program} {w:World} {A:Around} {R:Result→Shared→Prop} {s:Shared}
end
section
variable {X:Cx} {tg iter elt:Expr} {ifs:List Expr} {scope:Scope} {pos:Pos} {N:List Str} {nt:Nat} {caps:List Nat} {wi:TI} {g:TG} {tt:TT} {te:TE} {cl:List (Str×Addr)}
end
end L2
namespace Tx
open PySem
section
variable {ws:List Str} {a b:Nat}
def qo9 {c:Nat}:∀{xs ys:List (List Nat)},xs≠[]→ys≠[]→jn c xs++c::jn c ys=jn c (xs++ys)
 | [],_,h,_=>absurd rfl h
 | [x],ys,_,h=>by
   show x++c::jn c ys=jn c (x::ys)
   rw [jn_cons h]
 | x::y::r,ys,_,h=>by
   show (x++c::jn c (y::r))++c::jn c ys=jn c (x::((y::r)++ys))
   rw [jn_cons (x:=x) (r:=y::r++ys) (by simp),ydk,yfs,qo9 (xs:=y::r) (by simp) h]
def join_app {c:Nat} {xs ys:List Str} (h1:xs≠[]) (h2:ys≠[]):Txt.join ⟨#[c]⟩ xs++⟨#[c]⟩++Txt.join ⟨#[c]⟩ ys=Txt.join ⟨#[c]⟩ (xs++ys):=by
 refine ext ?_
 rw [sg_app,sg_app,txt_join,txt_join,txt_join,ycu,←qo9 (by simpa using h1) (by simpa using h2),ydk]
 rfl
def pF (ws:List Str) (fs:List Nat):List Str:=if fs=[] then [("none" : Str)] else fs.map (sT ws)
def join_one {c:Nat} (w:Str):Txt.join ⟨#[c]⟩ [w]=w:=rfl
end
end Tx
namespace L2
open PySem PySem.Spec PyProof.Rows
section
variable {X:Cx} {K:PySem.W.Frag}
end
end L2
namespace L2
open PySem PySem.Spec PyProof.Rows
section
variable {X:Cx} {e a b o:Expr} {es:List Expr} {te ta tb to:TE} {t:TA} {pos apos cpos:Pos}
end
def As (z:Str):Prop:=∀c∈Tx.sg z,c<128
section
variable {X:Cx}
def qjU:∀(l:List (Array Nat)) (acc:Array Nat),(l.foldl (·++·) acc).toList=acc.toList++(l.map Array.toList).flatten
 | [],acc=>by simp
 | x::l,acc=>by
   rw [ybn,qjU l]
   simp
def qsR:R2:=fun x y H Q=>∃(z:Str) (n:Nat),x = .str z∧y = .int (n:Nat)∧1≤n∧n≤100∧z.length≤100∧∀r:Str,(∀c∈Tx.sg r,c∈Tx.sg z)→r.length=n*z.length→Q (.str r) H
def qpY:OpR X (binaryOp .Mult) qsR:=by
 intro pins s σ H x y v u Q I rx ry h
 obtain ⟨z,n,rfl,rfl,h1,h2,hz,q⟩:=h
 obtain ⟨t,rfl⟩:=rx
 obtain ⟨t',rfl⟩:=ry
 have e24:sizeLine=16777216:=sizeLine_eq
 have hm:z.length*n≤100*100:=ygt hz h2
 refine P.mul_str (by rw [decide_eq_false (by omega),decide_eq_false (by omega)];rfl) (fun _ _=>?_) (fun _ _=>?_) ?_
 · have:((2:Int)^63-1)/100≤((2:Int)^63-1)/(n:Int):=by
     refine Int.le_ediv_of_mul_le (by omega) ?_
     have:((2:Int)^63-1)/100*(n:Int)≤((2:Int)^63-1)/100*100:=Int.mul_le_mul_of_nonneg_left (by omega) (by decide)
     omega
   omega
 · unfold Builtin.Str.tooLong
   rw [yfg]
   exact decide_eq_false (by omega)
 · rw [if_neg (by omega)]
   by_cases c:(((n:Int)==1)||z.length==0)=true
   · rw [if_pos c]
     refine ⟨.str z,H,I.tok _,⟨_,rfl⟩,q z (fun _ hc=>hc) ?_⟩
     simp only [ycy,beq_iff_eq] at c
     rcases c with c | c
     · rw [show n=1 by omega,ygs]
     · rw [c,Nat.mul_zero]
   · rw [if_neg c]
     have el:Tx.sg (⟨(List.replicate (n:Int).toNat z.cps).foldl (·++·) #[]⟩:Str)=(List.replicate n (Tx.sg z)).flatten:=by
       show ((List.replicate (n:Int).toNat z.cps).foldl (·++·) #[]).toList=_
       rw [qjU,ygv,yfg]
       rfl
     have ll:(⟨(List.replicate (n:Int).toNat z.cps).foldl (·++·) #[]⟩:Str).length=n*z.length:=by
       rw [←Tx.len_sg,el,List.length_flatten,ygv,List.sum_replicate_nat,Tx.len_sg]
     refine ⟨?_,.str _,H,I.tok _,⟨_,rfl⟩,q _ (fun d hd=>?_) ll⟩
     · rw [ll,yfp]
       omega
     · rw [el] at hd
       obtain ⟨l,hl,hd⟩:=ygj.mp hd
       rw [(List.mem_replicate.mp hl).2] at hd
       exact hd
end
def qpg {c d:Nat}:∀{xs:List (List Nat)} {x:List Nat},x∈xs→d∈x→d∈Tx.jn c xs
 | [y],x,hx,hd=>by rw [yei.mp hx] at hd;exact hd
 | y::y'::r,x,hx,hd=>by
   show d∈y++c::Tx.jn c (y'::r)
   rcases ybg.mp hx with rfl | hx
   · exact yav _ hd
   · exact yev _ (ybh _ (qpg hx hd))
def qp3 {z:Str} (h:As z) (c:Nat):∀p∈Txt.split z ⟨#[c]⟩,As p:=fun p hp d hd=>by
 have e2:=congrArg Tx.sg (StrLaws.join_split z ⟨#[c]⟩)
 rw [Tx.sg_join] at e2
 exact h d (e2▸qpg (ybt.mpr ⟨p,hp,rfl⟩) hd)
def qpO {c:Nat} (hc:c<128) {ys:List Str} (h:∀y∈ys,As y):As (Txt.join ⟨#[c]⟩ ys):=fun d hd=>by
 rw [Tx.txt_join] at hd
 rcases Tx.jn_mem hd with e | ⟨x,hx,hd⟩
 · omega
 · obtain ⟨y,hy,rfl⟩:=ybt.mp hx
   exact h y hy d hd
end L2
namespace L2
open PySem PySem.Spec PyProof.Rows
def wdB (z:Str):Bool:=decide (1≤z.length)&&decide (z.length≤8)&&(Tx.sg z).all fun c=>decide (97≤c)&&decide (c≤122)
def rN (z:Str):Option (List Str) :=
 if Txt.split z " " = [("" : Str)] then some [] else
 if ((Txt.split z " ").all fun w=>wdB w&&!decide (w=("none" : Str)))=true∧(Txt.split z " ").length≤8∧cnt (Txt.split z " ")=(Txt.split z " ").length then some (Txt.split z " ") else none
end L2
namespace L2
open PySem PySem.Spec PyProof.Rows
section
variable {K:PySem.W.Frag} {n k:Nat} {H0 H H1:Hp} {pl:Addr} {ys:List V} {Q:VK}
end
end L2
namespace L2
open PySem PySem.Spec PyProof.Rows
def qr2 {c:Nat}:∀xs:List (List Nat),(Tx.jn c xs.reverse).length=(Tx.jn c xs).length:=by
 have tot:∀xs:List (List Nat),(Tx.jn c xs).length+(if xs=[] then 1 else 0)+1=(xs.map fun x=>x.length+1).sum+(if xs=[] then 2 else 0):=by
   intro xs
   induction xs with
   | nil=>rfl
   | cons x r ih =>
     cases r with
     | nil=>simp [Tx.jn]
     | cons y r =>
       rw [Tx.jn_cons (by simp),ydq,ycb]
       rw [if_neg (by simp),if_neg (by simp)] at ih ⊢
       rw [ycf,ycg]
       omega
 intro xs
 have h1:=tot xs
 have h2:=tot xs.reverse
 have e:(xs.reverse.map fun x=>x.length+1).sum=(xs.map fun x=>x.length+1).sum:=by
   rw [ygw,List.sum_reverse]
 rw [e] at h2
 by_cases h0:xs=[]
 · rw [h0];rfl
 · rw [if_neg h0,if_neg h0] at h1
   rw [if_neg (by simpa using h0),if_neg (by simpa using h0)] at h2
   omega
def turned {z:Str} (h:As z) {c:Nat} (hc:c<128):As (Txt.join ⟨#[c]⟩ (Txt.split z ⟨#[c]⟩).reverse)∧(Txt.join ⟨#[c]⟩ (Txt.split z ⟨#[c]⟩).reverse).length=z.length:=by
 refine ⟨qpO hc fun y hy=>qp3 h c y (ybs.mp hy),?_⟩
 have e2:=congrArg Tx.sg (StrLaws.join_split z ⟨#[c]⟩)
 rw [Tx.sg_join] at e2
 rw [←Tx.len_sg,Tx.txt_join,ygw,qr2,e2,Tx.len_sg]
def qnC {c:Nat}:∀{L:List Nat},L.Nodup→(∀x∈L,x=c)→c∈L→L=[c]
 | [],_,_,h=>by cases h
 | x::r,nd,h,_=>by
   have e:=h x ybe
   subst e
   cases r with
   | nil=>rfl
   | cons y r =>
     have:=h y (ybh _ ybe)
     subst this
     exact absurd ybe (yca.mp nd).1
def qbM {ws:List Str} (nd:ws.Nodup) (w:Str):(List.range ws.length).filter (fun k=>decide (ws.getD k Str.empty=w))=if w∈ws then [ws.idxOf w] else []:=by
 have at':∀k,k<ws.length→ws[k]?=some (ws.getD k Str.empty):=fun k hk=>by rw [yci,ycj hk];rfl
 by_cases h:w∈ws
 · rw [if_pos h]
   have hl:=List.idxOf_lt_length_of_mem h
   refine qnC (ycc.sublist ybd) (fun x hx=>?_) ?_
   · obtain ⟨h1,h2⟩:=ybb.mp hx
     have h1:=ybk.mp h1
     have h2:=of_decide_eq_true h2
     have e1:=at' x h1
     have e2:ws[ws.idxOf w]?=some w:=by rw [ycj hl,ycr]
     rw [h2] at e1
     obtain ⟨q1,q2⟩:=ycl.mp e1
     obtain ⟨q3,q4⟩:=ycl.mp e2
     exact (yep nd).mp (q2.trans q4.symm)
   · refine ybb.mpr ⟨ybk.mpr hl,decide_eq_true ?_⟩
     have e2:ws[ws.idxOf w]?=some w:=by rw [ycj hl,ycr]
     have:=at' _ hl
     rw [e2] at this
     exact (Option.some.inj this).symm
 · rw [if_neg h,ygu]
   intro k hk z
   have z:=of_decide_eq_true z
   exact h (z▸yck (at' k (ybk.mp hk)))
def qjM (L:List Nat) (k:Nat):Fam.ofN (L++[k])=Fam.ofN L|||2^k:=by
 unfold Fam.ofN
 rw [yas]
 rfl
end L2
namespace L2
open PySem PySem.Spec PyProof.Rows
def KDt (P:Program) (w:World) (K:PySem.W.Frag) (a:Addr) (kvs:List (Key×V)):Prop :=
 (a==sysModules)=false∧∃(o:Obj) (vs:List (Key×Value)),K.lookup a=some o∧KV kvs vs∧∀h:Heap,h.get? a=some o→h.DictOf (qa0 P w) a vs
section
variable {X:Cx} {pins:List (Addr×Obj)} {σ:St} {H:Hp} {s:Shared} {a:Addr} {kvs:List (Key×V)} {P:Program} {w:World} {K:PySem.W.Frag}
def Inv.kdt (I:Inv X pins σ H s) (h:KDt X.prog X.w X.K a kvs):(a==sysModules)=false∧∃vs,KV kvs vs∧s.heap.DictOf (qa0 X.prog X.w) a vs:=by
 obtain ⟨z,o,vs,lk,r,d⟩:=h
 exact ⟨z,vs,r,d _ (I.kIn a o lk)⟩
def qrw (P:Program) (w:World) (K:PySem.W.Frag) (td ty:TE):TE:=fun σ H Q=>td σ H fun x H1=>ty σ H1 fun y H2=>∃(a:Addr) (kvs:List (Key×V)) (k:Key) (v:V),x = .ref a∧y=kV k∧KDt P w K a kvs∧qdc kvs k=some v∧Q v H2
def qs8 (P:Program) (w:World) (K:PySem.W.Frag) (ty td:TE):TE:=fun σ H Q=>ty σ H fun y H1=>td σ H1 fun x H2=>∃(a:Addr) (kvs:List (Key×V)) (k:Key),x = .ref a∧y=kV k∧KDt P w K a kvs∧Q (.bl (!(qdc kvs k).isSome)) H2
variable {o i:Expr} {pos:Pos} {td ty:TE}
def qi4 (hP:X.prog=P) (hw:X.w=w) (hK:X.K=K) (ho:PE X o td) (hi:PE X i ty) (hs:quo i):PE X (.Subscript o i pos) (qrw P w K td ty):=by
 subst hP hw hK
 intro pins s σ H Q I h
 refine qlC yft.lookup hs (thn (ho pins s σ H _ I h) fun u s1 ⟨x,H1,I1,rx,q1⟩=>thn (hi pins s1 σ H1 _ I1 q1) fun iv s2 ⟨y,H2,I2,ry,b,kvs,k,v,ex,ey,g,hv,q2⟩=>?_)
 subst ex ey
 obtain rfl:u=Value.ref b:=rx
 obtain ⟨_,vs,rel,dd⟩:=I2.kdt g
 obtain ⟨w',hw,rw'⟩:=qhs.some_of (v:=v) (o:=valueAt vs k) (by rw [←hv];exact rel.val k)
 exact ⟨dd.typeIs,wpAny_getItem_of (qka ry) dd.mapOf hw ⟨v,H2,I2.tok _,rw',q2⟩⟩
def qqY (hP:X.prog=P) (hw:X.w=w) (hK:X.K=K) (hi:PE X i ty) (ho:PE X o td):PC X .NotIn i o (qs8 P w K ty td):=by
 subst hP hw hK
 intro pins s σ H Q I h
 refine thn (hi pins s σ H _ I h) fun iv s1 ⟨y,H1,I1,ry,q1⟩=>thn (ho pins s1 σ H1 _ I1 q1) fun u s2 ⟨x,H2,I2,rx,b,kvs,k,ex,ey,g,q2⟩=>?_
 subst ex ey
 obtain rfl:u=Value.ref b:=rx
 obtain ⟨hd,vs,rel,dd⟩:=I2.kdt g
 refine wpAny_notIn_of (qka ry) hd dd.mapOf ?_
 rw [←(rel.val k).isSome_eq]
 exact ⟨.bl _,H2,I2.tok _,rfl,q2⟩
end
section
variable {X:Cx}
def qqa:V→List V→Hp→VK→Prop:=fun x vs H Q=>∃(z y:Str) (n:Nat),x = .str z∧vs=[.str y,.int (n:Nat)]∧(y.length==0)=false∧z.length≤100000∧n≤1000∧∀l,H l=none→Q (.ref l) (upd H l (.lst (sV (Txt.splitMax z y (n:Int)))))
def qtk (z y:Str) (n:Int):(Txt.splitMax z y n).length≤z.length+2:=by
 unfold Txt.splitMax
 split
 · exact Nat.le_add_left _ _
 · split
   · exact Nat.le_add_left _ _
   · have e1:=StrLaws.occ_length_le_len z y 0 z.length (limitOf z n)
     rw [length_partsBetween]
     omega
def qlU:MtM X "str.split" qqa:=by
 intro pins s σ H x vs v us Q I rx rv h
 obtain ⟨z,y,n,rfl,rfl,hy,hz,hn,q⟩:=h
 obtain ⟨t,rfl⟩:=rx
 obtain ⟨u,u3,rfl,ru,ru3⟩:=qlI rv
 obtain ⟨t2,rfl⟩:=ru
 obtain ⟨t3,rfl⟩:=ru3
 have hl:=qtk z y (n:Int)
 have e24:sizeLine=16777216:=sizeLine_eq
 have hk:(decide ((n:Int) < -(2^63:Int))||decide ((n:Int)≥2^63))=false:=by
   rw [decide_eq_false (by omega),decide_eq_false (by omega)]
   rfl
 have fin:∀(l:List (Str×Tok)) (k:Nat),l.map (·.1)=Txt.splitMax z y (n:Int)→EP X pins σ Q (.ref s.heap.objs.size) { s with heap:=s.heap.push { cls := .type "list",data := .seq (strValues l).toArray },toks:=k }:=fun l k e =>
   ⟨.ref s.heap.objs.size,_,I.lnew (ys:=sV (Txt.splitMax z y (n:Int))) (t':=k) (by rw [←e];exact qfI l) (by rw [ycd];omega),rfl,q _ I.fresh⟩
 cases h1:(decide (z.length<y.length)||decide (Builtin.Str.strKind z<Builtin.Str.strKind y)) with
 | true=>exact call_meets F.slot_str_split (typeIs_str _ _ _) F.entry_str_split (F.args_str_split_3 _ _ _) (meets_str_split_max_cannot_occur z y n t t2 t3 hk h1) (fin [(z,t)] s.toks (if_pos h1).symm)
 | false =>
   cases h2:(Builtin.Str.occurrences z y 0 z.length (limitOf z n)).isEmpty with
   | true=>exact call_meets F.slot_str_split (typeIs_str _ _ _) F.entry_str_split (F.args_str_split_3 _ _ _) (meets_str_split_max_not_found z y n t t2 t3 hk h1 hy h2) (fin [(z,t)] s.toks ((if_neg (ne_true_of_eq_false h1)).trans (if_pos h2)).symm)
   | false =>
     have es:Txt.splitMax z y (n:Int)=Builtin.Str.partsBetween z (Builtin.Str.occurrences z y 0 z.length (limitOf z n)) y.length:=(if_neg (ne_true_of_eq_false h1)).trans (if_neg (ne_true_of_eq_false h2))
     refine call_meets F.slot_str_split (typeIs_str _ _ _) F.entry_str_split (F.args_str_split_3 _ _ _) (meets_str_split_sep_max z y n t t2 t3 hk h1 hy h2 (by omega) (by rw [←es];omega)) ?_
     rw [strsFrom_eq]
     exact fin (numbered s.toks _) _ ((numbered_texts _ _).trans es.symm)
end
end L2
namespace L2
open PySem PySem.Spec PyProof.Rows
structure Drw (P:Program) (w:World) (it src:Addr) (tn:Nat→Heap→Prop) (vs:Array Value):Prop where
 item:∀{A:Around} {E:Value→Shared→Prop} {s:Shared} {k:Nat} {x:Value} {Q:Value→Shared→Prop},tn k s.heap→vs[k]?=some x→(∀g,tn (k+1) g→Heap.SameBut it s.heap g→Q x { s with heap:=g })→wpAny (model P w) A (Builtin.SmallTypes.nextOf (.ref it)) Q E s
 stop:∀{A:Around} {E:Value→Shared→Prop} {s:Shared} {k:Nat} {Q:Value→Shared→Prop},A.handled=none→tn k s.heap→vs[k]?=none→(∀g e,Heap.ExtBut it s.heap g→(∃o,g.get? e=some o∧o.cls = .type "StopIteration")→E (.ref e) { s with heap:=g })→wpAny (model P w) A (Builtin.SmallTypes.nextOf (.ref it)) Q E s
 keep:∀{k:Nat} {h g:Heap},tn k h→(∀b o,(b=it∨b=src)→h.get? b=some o→g.get? b=some o)→tn k g
 rcd:∀{k:Nat} {h:Heap},tn k h→∃o,h.get? it=some o∧∀v,o.data ≠ .cell v
section
variable {P:Program} {w:World} {it src:Addr} {vs:Array Value}
def Drw.list (ne:src≠it):Drw P w it src (fun k h=>h.IsListIter it src k∧h.IsList src vs) vs where
 item:=fun ⟨h1,h2⟩ hx q=>wpAny_nextOf_list_item h1 h2 hx fun g a b=>q g ⟨a,h2.extBut b.extBut ne⟩ b
 stop:=fun hh ⟨h1,h2⟩ hx q=>wpAny_nextOf_list_end hh h1 h2 hx q
 keep:=fun ⟨h1,h2⟩ k=>⟨h1.at fun o e=>k it o (.inl rfl) e,h2.at fun o e=>k src o (.inr rfl) e⟩
 rcd:=fun ⟨⟨o,e,_,d⟩,_⟩=>⟨o,e,fun v z=>by rw [d] at z;cases z⟩
def Drw.tup (ne:src≠it):Drw P w it src (fun k h=>IsTupIter h it src k∧IsTup h src vs) vs where
 item:=by
   rintro A E s k x Q ⟨h1,h2⟩ hx q
   obtain ⟨oi,gi,ci,di⟩:=id h1
   obtain ⟨ot,gt,ct,nt,dt⟩:=id h2
   unfold Builtin.SmallTypes.nextOf
   refine wpAny_bind (wpAny_callSpecial?_slot (name:=Str.ofString "__next__") h1.typeIs slot_tupleiter_next (wpAny_call_entry slot_tupleiter_next h1.typeIs entry_tupleiter_next ?_ (args_tupleiter_next _)))
   show wpAny _ _ (field (.ref it) 0 >>= _) _ _ s;refine wpAny_bind (wpAny_field gi di (x := .ref src) rfl ?_)
   show wpAny _ _ (if (Value.ref src==Value.none)=true then _ else _) _ _ s;rw [if_neg (show ¬((Value.ref src==Value.none)=true) from yet)]
   show wpAny _ _ (field (.ref it) 1 >>= _) _ _ s;refine wpAny_bind (wpAny_field gi di (x := .int k 0) rfl ?_)
   show wpAny _ _ (seqItems? (.ref src) >>= _) _ _ s;refine wpAny_bind (wpAny_seqItems gt dt ?_)
   simp only [yfg,hx]
   have st:IsTupIter (s.heap.update it (Obj.mapFields (·.setIfInBounds 1 (rawInt (k+1))))) it src (k+1) :=
     ⟨_,ydr _ gi (Obj.isFreed_of_fields (Obj.data_mapFields di _)),(Obj.cls_mapFields ..).trans ci,by rw [Obj.data_mapFields di];simp [rawInt]⟩
   refine wpAny_bind (wpAny_setField gi di (by simp) (wpAny_pure ⟨x,rfl,wpAny_pure (q _ ⟨st,ot,?_,ct,nt,dt⟩ (Heap.SameBut.update ..))⟩))
   rw [yeg _ _ (Ne.symm ne)]
   exact gt
 stop:=by
   rintro A E s k Q hh ⟨h1,h2⟩ hx q
   obtain ⟨oi,gi,ci,di⟩:=id h1
   obtain ⟨ot,gt,ct,nt,dt⟩:=id h2
   unfold Builtin.SmallTypes.nextOf
   refine wpAny_bind (wpAny_callSpecial?_slot (name:=Str.ofString "__next__") h1.typeIs slot_tupleiter_next (wpAny_call_entry slot_tupleiter_next h1.typeIs entry_tupleiter_next ?_ (args_tupleiter_next _)))
   show wpAny _ _ (field (.ref it) 0 >>= _) _ _ s;refine wpAny_bind (wpAny_field gi di (x := .ref src) rfl ?_)
   show wpAny _ _ (if (Value.ref src==Value.none)=true then _ else _) _ _ s;rw [if_neg (show ¬((Value.ref src==Value.none)=true) from yet)]
   show wpAny _ _ (field (.ref it) 1 >>= _) _ _ s;refine wpAny_bind (wpAny_field gi di (x := .int k 0) rfl ?_)
   show wpAny _ _ (seqItems? (.ref src) >>= _) _ _ s;refine wpAny_bind (wpAny_seqItems gt dt ?_)
   simp only [yfg,hx]
   refine wpAny_bind (wpAny_rule (wpAny_bind (wpAny_setField gi di (by simp) ?_)));show wpAny _ _ (newExc (.type "StopIteration") [] >>= _) _ _ _
   refine wpAny_bind ?_;simp only [newExc,newTuple];refine wpAny_bind (wpAny_newObj_type ?_ (by size_fits))
   refine wpAny_bind (m:=firstArgMember _ _) (wpAny_of_eq (a:=Value.none) (by first | rfl | (simp only [firstArgMember];rfl)) (wpAny_newObj_type ?_ (by size_fits)))
   simp only [raiseNew];refine wpAny_bind (wpAny_handled ?_);first | rw [show A.in1.handled=none from hh] | rw [hh]
   exact wpAny_bind (wpAny_pure (wpAny_throw (q _ _ (((Heap.SameBut.update ..).extBut.push _).push _) ⟨_,ydt _ rfl,rfl⟩)))
 keep:=fun ⟨h1,h2⟩ k=>by
   obtain ⟨oi,gi,ri⟩:=h1
   obtain ⟨ot,gt,rt⟩:=h2
   exact ⟨⟨oi,k it oi (.inl rfl) gi,ri⟩,ot,k src ot (.inr rfl) gt,rt⟩
 rcd:=fun ⟨⟨o,e,_,d⟩,_⟩=>⟨o,e,fun v z=>by rw [d] at z;cases z⟩
variable {A:Around} {E:Value→Shared→Prop} {s:Shared} {z TI TO i1 i2 l1 l2:Addr} {t1 t2:Nat→Heap→Prop} {xs ys:Array Value} {k:Nat} {a b:Value}
def qpS {x y:Value} {Q:Option Value→Shared→Prop} (D:ZipApart z TI TO i1 i2 l1 l2) (D1:Drw P w i1 l1 t1 xs) (D2:Drw P w i2 l2 t2 ys)
   (hz:IsZip s.heap z TI TO .none) (hI:IsPair s.heap TI (.ref i1) (.ref i2)) (hO:IsPair s.heap TO a b) (c1:t1 k s.heap) (c2:t2 k s.heap) (hx:xs[k]?=some x) (hy:ys[k]?=some y)
   (q:∀g,IsZip g z TI TO (rawInt s.heap.objs.size)→IsPair g TO x y→t1 (k+1) g→t2 (k+1) g→IsPair g s.heap.objs.size x y→(∀c o,c≠z→c≠TO→c≠i1→c≠i2→s.heap.get? c=some o→g.get? c=some o)→Q (some (.ref s.heap.objs.size)) { s with heap:=g }) :
   wpAny (model P w) A (pyNext (.ref z)) Q E s:=by
 have tz:s.TypeIs (.ref z) "zip" := ⟨_,hz,rfl⟩
 unfold pyNext
 refine wpAny_bind (wpAny_attempt (wpAny_callSpecial?_slot (name:=Str.ofString "__next__") tz F.slot_zip_next (wpAny_call_entry F.slot_zip_next tz F.entry_zip_next ?_ (F.args_zip_next_1 _))))
 show wpAny _ _ (field (.ref z) 2 >>= _) _ _ _;refine wpAny_bind (wpAny_field hz rfl (x := .bool false) rfl ?_);show wpAny _ _ (field (.ref z) 3 >>= _) _ _ _
 refine wpAny_bind (wpAny_field hz rfl (x := .ref TI) rfl (wpAny_bind (wpAny_seqItems hI rfl ?_)));show wpAny _ _ (Builtin.SmallTypes.ownedTupleIsFree (.ref z) >>= _) _ _ _
 refine wpAny_bind ?_;unfold Builtin.SmallTypes.ownedTupleIsFree;refine wpAny_bind (wpAny_field hz rfl (x := .none) rfl (wpAny_pure ?_));simp only [if_true]
 refine wpAny_bind (wpAny_rule (wpAny_bind (wpAny_field hz rfl (x := .ref TO) rfl ?_)));refine wpAny_bind (wpAny_setField_rec hz (by simp) fun g1 e1 m1=>?_)
 replace e1:IsZip g1 z TI TO .ellipsis:=e1;refine wpAny_bind ?_;simp only [List.zipIdx_cons,List.zipIdx_nil,yfv,List.forIn_nil]
 have c1':t1 k g1:=D1.keep c1 fun b o hb e=>m1.extBut _ _ (by rcases hb with rfl | rfl;exact D.i1z;exact D.l1z) e
 have c2':t2 k g1:=D2.keep c2 fun b o hb e=>m1.extBut _ _ (by rcases hb with rfl | rfl;exact D.i2z;exact D.l2z) e
 refine wpAny_bind (wpAny_bind (wpAny_onRaise ?_));show wpAny _ _ (Builtin.SmallTypes.nextOf (.ref i1) >>= _) _ _ _
 refine wpAny_bind (D1.item (s:={ s with heap:=g1 }) c1' hx fun g2 d1 m2=>wpAny_pure ?_)
 have o2:IsPair g2 TO a b:=m2.extBut _ _ D.TOi1 (m1.extBut _ _ D.TOz hO)
 refine wpAny_bind (wpAny_seqItems o2 rfl (wpAny_bind (wpAny_updateSeq_pair o2 fun g3 o3 m3=>wpAny_bind (wpAny_letGo (wpAny_pure ?_)))));replace o3:IsPair g3 TO x b:=o3
 have c2':t2 k g3:=D2.keep c2' fun b o hb e=>m3.extBut _ _ (by rcases hb with rfl | rfl;exact D.TOi2.symm;exact D.l2TO) (m2.extBut _ _ (by rcases hb with rfl | rfl;exact D.i12.symm;exact D.l2i1) e)
 refine wpAny_bind (wpAny_bind (wpAny_onRaise ?_));show wpAny _ _ (Builtin.SmallTypes.nextOf (.ref i2) >>= _) _ _ _
 refine wpAny_bind (D2.item (s:={ s with heap:=g3 }) c2' hy fun g4 d2 m4=>wpAny_pure ?_)
 have o4:IsPair g4 TO x b:=m4.extBut _ _ D.TOi2 o3
 refine wpAny_bind (wpAny_seqItems o4 rfl (wpAny_bind (wpAny_updateSeq_pair o4 fun g5 o5 m5=>wpAny_bind (wpAny_letGo (wpAny_pure (wpAny_pure ?_))))));replace o5:IsPair g5 TO x y:=o5
 refine wpAny_bind (wpAny_seqItems o5 rfl (wpAny_bind (wpAny_newTuple ?_)))
 have sz:g5.objs.size=s.heap.objs.size:=by rw [m5.1,m4.1,m3.1,m2.1,m1.1]
 have z5:IsZip g5 z TI TO .ellipsis:=m5.extBut _ _ D.TOz.symm (m4.extBut _ _ D.i2z.symm (m3.extBut _ _ D.TOz.symm (m2.extBut _ _ D.i1z.symm e1)))
 have old:∀c o,c≠z→c≠TO→c≠i1→c≠i2→s.heap.get? c=some o→g5.get? c=some o:=fun c o n1 n2 n3 n4 e=>m5.extBut _ _ n2 (m4.extBut _ _ n4 (m3.extBut _ _ n2 (m2.extBut _ _ n3 (m1.extBut _ _ n1 e))))
 have d1':t1 (k+1) g5:=D1.keep d1 fun b o hb e=>m5.extBut _ _ (by rcases hb with rfl | rfl;exact D.TOi1.symm;exact D.l1TO) (m4.extBut _ _ (by rcases hb with rfl | rfl;exact D.i12;exact D.l1i2) (m3.extBut _ _ (by rcases hb with rfl | rfl;exact D.TOi1.symm;exact D.l1TO) e))
 have d2':t2 (k+1) g5:=D2.keep d2 fun b o hb e=>m5.extBut _ _ (by rcases hb with rfl | rfl;exact D.TOi2.symm;exact D.l2TO) e
 have zl:z<g5.objs.size:=ydv z5
 show wpAny _ _ (Builtin.SmallTypes.ownedTupleHandOut (.ref z) (.ref g5.objs.size) >>= _) _ _ _;refine wpAny_bind ?_;unfold Builtin.SmallTypes.ownedTupleHandOut
 have z6:IsZip (g5.push { cls := .type "tuple",data := .seq #[x,y] }) z TI TO .ellipsis:=ydu _ z5
 refine wpAny_bind (wpAny_setField_rec z6 (by simp) fun g7 z7 m7=>?_);replace z7:IsZip g7 z TI TO (rawInt g5.objs.size):=z7
 refine wpAny_setField_rec z7 (by simp) fun g8 z8 m8=>?_;replace z8:IsZip g8 z TI TO (rawInt g5.objs.size):=z8
 have up:∀c o,c≠z→g5.get? c=some o→g8.get? c=some o:=fun c o n e=>m8.extBut _ _ n (m7.extBut _ _ n (ydu _ e))
 have p8:IsPair g8 g5.objs.size x y:=m8.extBut _ _ (yea zl) (m7.extBut _ _ (yea zl) (ydt _ rfl))
 rw [sz] at z8 p8
 refine wpAny_pure ⟨_,rfl,wpAny_pure ?_⟩
 show Q (some (.ref g5.objs.size)) _;rw [sz]
 exact q g8 z8 (up _ _ D.TOz o5) (D1.keep d1' fun b o hb e=>up b o (by rcases hb with rfl | rfl;exact D.i1z;exact D.l1z) e) (D2.keep d2' fun b o hb e=>up b o (by rcases hb with rfl | rfl;exact D.i2z;exact D.l2z) e) p8 fun c o n1 n2 n3 n4 e=>up c o n1 (old c o n1 n2 n3 n4 e)
def qrm {Q:Option Value→Shared→Prop} (hh:A.handled=none) (D:ZipApart z TI TO i1 i2 l1 l2) (D1:Drw P w i1 l1 t1 xs)
   (hz:IsZip s.heap z TI TO .none) (hI:IsPair s.heap TI (.ref i1) (.ref i2)) (hO:IsPair s.heap TO a b) (c1:t1 k s.heap) (hx:xs[k]?=none)
   (q:∀g,(∀c o,c≠z→c≠TO→c≠i1→c≠i2→s.heap.get? c=some o→g.get? c=some o)→Q none { s with heap:=g }):wpAny (model P w) A (pyNext (.ref z)) Q E s:=by
 have tz:s.TypeIs (.ref z) "zip" := ⟨_,hz,rfl⟩
 unfold pyNext
 refine wpAny_bind (wpAny_attempt (wpAny_callSpecial?_slot (name:=Str.ofString "__next__") tz F.slot_zip_next (wpAny_call_entry F.slot_zip_next tz F.entry_zip_next ?_ (F.args_zip_next_1 _))))
 show wpAny _ _ (field (.ref z) 2 >>= _) _ _ _;refine wpAny_bind (wpAny_field hz rfl (x := .bool false) rfl ?_);show wpAny _ _ (field (.ref z) 3 >>= _) _ _ _
 refine wpAny_bind (wpAny_field hz rfl (x := .ref TI) rfl (wpAny_bind (wpAny_seqItems hI rfl ?_)));show wpAny _ _ (Builtin.SmallTypes.ownedTupleIsFree (.ref z) >>= _) _ _ _
 refine wpAny_bind ?_;unfold Builtin.SmallTypes.ownedTupleIsFree;refine wpAny_bind (wpAny_field hz rfl (x := .none) rfl (wpAny_pure ?_));simp only [if_true]
 refine wpAny_bind (wpAny_rule (wpAny_bind (wpAny_field hz rfl (x := .ref TO) rfl ?_)));refine wpAny_bind (wpAny_setField_rec hz (by simp) fun g1 e1 m1=>?_)
 replace e1:IsZip g1 z TI TO .ellipsis:=e1;refine wpAny_bind ?_;simp only [List.zipIdx_cons,List.zipIdx_nil,yfv,List.forIn_nil]
 have c1':t1 k g1:=D1.keep c1 fun b o hb e=>m1.extBut _ _ (by rcases hb with rfl | rfl;exact D.i1z;exact D.l1z) e
 refine wpAny_bind (wpAny_bind (wpAny_onRaise ?_));show wpAny _ _ (Builtin.SmallTypes.nextOf (.ref i1) >>= _) _ _ _
 refine wpAny_bind (D1.stop (s:={ s with heap:=g1 }) hh c1' hx fun g2 e m2 ⟨oe,ge,ce⟩=>?_)
 have z2:IsZip g2 z TI TO .ellipsis:=m2 _ _ D.i1z.symm e1
 have nz:e≠z:=fun x=>by subst x;rw [z2] at ge;cases ge;simp at ce
 refine wpAny_setField_rec z2 (by simp) fun g3 _ m3=>?_
 refine wpAny_bind (wpAny_isInstance (T := "StopIteration") (b:=true) ⟨oe,m3.extBut _ _ nz ge,ce⟩ isSubtype_stop (wpAny_pure (q g3 fun c o n1 _ n3 _ x=>m3.extBut _ _ n1 (m2 _ _ n3 (m1.extBut _ _ n1 x)))))
end
end L2
namespace Tx
open PySem
def qf3 (c:Nat):List Nat→Nat→List Nat
 | [],_=>[]
 | d::r,k=>if d=c then k::qf3 c r (k+1) else qf3 c r (k+1)
def qg8 (c:Nat):∀(a b:List Nat) (k:Nat),qf3 c (a++b) k=qf3 c a k++qf3 c b (k+a.length)
 | [],b,k=>rfl
 | d::r,b,k=>by
   show (if d=c then k::qf3 c (r++b) (k+1) else qf3 c (r++b) (k+1))=(if d=c then k::qf3 c r (k+1) else qf3 c r (k+1))++_
   rw [qg8 c r b (k+1),ycb,show k+1+r.length=k+(r.length+1) by omega]
   split<;>rfl
def qiz (c:Nat):∀(a:List Nat) (k:Nat),c∉a→qf3 c a k=[]
 | [],_,_=>rfl
 | d::r,k,h=>by
   show (if d=c then k::qf3 c r (k+1) else qf3 c r (k+1))=[]
   rw [if_neg (fun e:d=c=>h (by rw [e];exact ybe)),qiz c r (k+1) fun z=>h (ybh _ z)]
def qfn (c:Nat):∀(L:List Nat) (k:Nat),(List.range' k (L.length+1)).filter (fun i=>decide (L[i-k]?=some c))=qf3 c L k
 | [],k=>by simp [List.range',qf3]
 | d::r,k=>by
   rw [ycb,List.range'_succ,yce]
   have ih:=qfn c r (k+1)
   have e:(List.range' (k+1) (r.length+1)).filter (fun i=>decide ((d::r)[i-k]?=some c))=(List.range' (k+1) (r.length+1)).filter (fun i=>decide (r[i-(k+1)]?=some c)):=by
     refine yau fun i hi=>?_
     have:=(List.mem_range'_1.mp hi).1
     rw [show i-k=(i-(k+1))+1 by omega,ygx]
   rw [e,ih]
   show (if decide ((d::r)[k-k]?=some c)=true then _ else _)=if d=c then _ else _
   rw [ygh,ygy]
   by_cases h:d=c
   · rw [if_pos (by simpa using h),if_pos h]
   · rw [if_neg (by simpa using h),if_neg h]
def qgO (x:Str) (c k:Nat):∀(n a:Nat) (st:Array Nat×Nat),st.2≤a →
   (forIn (List.range' a n) st (StrLaws.occBody x ⟨#[c]⟩ x.length k)).run.fst.toList=st.1.toList++((List.range' a n).filter (fun i=>decide ((sg x)[i]?=some c))).take (k-st.1.size)
 | 0,a,st,_=>by simp [List.range']
 | n+1,a,st,h=>by
   rw [List.range'_succ,yfv,yce]
   unfold StrLaws.occBody
   have one:=StrLaws.subAt_one x c a
   by_cases hc:(sg x)[a]?=some c
   · have hA:=one.mpr hc
     rw [show decide ((sg x)[a]?=some c)=true from decide_eq_true hc]
     by_cases hk:st.1.size<k
     · rw [if_pos ⟨⟨⟨hk,h⟩,hA.1⟩,hA.2⟩]
       have ih:=qgO x c k n (a+1) (st.1.push a,a+1) (yba _)
       refine Eq.trans ih ?_
       rw [ydj,Array.size_push,ydk]
       congr 1
       obtain ⟨m,e⟩:∃m,k-st.1.size=m+1:=⟨k-st.1.size-1,by omega⟩
       rw [e,show k-(st.1.size+1)=m by omega]
       rfl
     · rw [if_neg fun z=>hk z.1.1.1]
       have ih:=qgO x c k n (a+1) (st.1,st.2) (Nat.le_succ_of_le h)
       refine Eq.trans ih ?_
       rw [show k-st.1.size=0 by omega]
       simp
   · rw [if_neg (fun z=>hc (one.mp ⟨z.1.2,z.2⟩)),show decide ((sg x)[a]?=some c)=false from decide_eq_false hc]
     exact qgO x c k n (a+1) (st.1,st.2) (Nat.le_succ_of_le h)
def qqz (x:Str) (c k:Nat):Builtin.Str.occurrences x ⟨#[c]⟩ 0 x.length k=(qf3 c (sg x) 0).take k:=by
 rw [StrLaws.occ_eq]
 have h:=qgO x c k (x.length+1-0) 0 (#[],0) (yba _)
 refine Eq.trans h ?_
 have e:=qfn c (sg x) 0
 rw [len_sg] at e
 simp only [Nat.sub_zero] at e ⊢
 rw [e]
 simp
def qjh {x:Str} {A B C:List Nat} (h:sg x=A++B++C):Builtin.Str.strSub x A.length (A.length+B.length)=⟨B.toArray⟩:=by
 refine ext ?_
 show (Builtin.Str.strSub x A.length (A.length+B.length)).cps.toList=_
 rw [StrLaws.strSub_toList,show x.cps.toList=A++B++C from h,Nat.add_sub_cancel_left,ydk,List.drop_left,List.take_left]
def qsw (x:Str) {c:Nat} (hc:c<256) (k:Nat):Txt.splitMax x ⟨#[c]⟩ (k:Int)=StrLaws.partsFrom x 1 0 ((qf3 c (sg x) 0).take k):=by
 unfold Txt.splitMax
 have hl:limitOf x (k:Int)=k:=by
   unfold limitOf
   rw [if_neg (by omega),yfg]
 have nil:(qf3 c (sg x) 0).take k=[]→[x]=StrLaws.partsFrom x 1 0 ((qf3 c (sg x) 0).take k):=fun e=>by
   rw [e]
   show [x]=[Builtin.Str.strSub x 0 x.length]
   rw [StrLaws.sub_whole]
 split
 · rename_i h
   refine nil ?_
   rw [ycy,decide_eq_true_eq,decide_eq_true_eq] at h
   rcases h with h | h
   · have h:x.length<1:=h
     have:sg x=[]:=yec.mp (by rw [len_sg];omega)
     rw [this]
     simp [qf3]
   · have e1:Builtin.Str.strKind ⟨#[c]⟩=1:=by
       unfold Builtin.Str.strKind
       rw [if_pos (by simp [hc])]
     have:1≤Builtin.Str.strKind x:=by
       unfold Builtin.Str.strKind
       split
       · decide
       · split<;>decide
     omega
 · rw [hl,qqz]
   split
   · rename_i h
     exact nil (List.isEmpty_iff.mp h)
   · rw [StrLaws.partsBetween_eq]
     rfl
def max_two {x a b r:Str} {c:Nat} (hc:c<256) (h:sg x=sg a++c::(sg b++c::sg r)) (ha:c∉sg a) (hb:c∉sg b):Txt.splitMax x ⟨#[c]⟩ 2=[a,b,r]:=by
 have e:Txt.splitMax x ⟨#[c]⟩ ((2:Nat):Int)=_:=qsw x hc 2
 refine Eq.trans e ?_
 have e1:qf3 c (sg x) 0=(sg a).length::((sg a).length+1+(sg b).length)::qf3 c (sg r) ((sg a).length+1+(sg b).length+1):=by
   rw [h,qg8,qiz c _ _ ha]
   show (if c=c then _ else _)=_
   rw [if_pos rfl,qg8,qiz c _ _ hb]
   show _::(if c=c then _ else _)=_
   rw [if_pos rfl,Nat.zero_add]
 rw [e1]
 show [Builtin.Str.strSub x 0 (sg a).length,Builtin.Str.strSub x ((sg a).length+1) ((sg a).length+1+(sg b).length),Builtin.Str.strSub x ((sg a).length+1+(sg b).length+1) x.length]=_
 have z1:=qjh (x:=x) (A:=[]) (B:=sg a) (C:=c::(sg b++c::sg r)) (by simpa using h)
 have z2:=qjh (x:=x) (A:=sg a++[c]) (B:=sg b) (C:=c::sg r) (by rw [h];simp)
 have z3:=qjh (x:=x) (A:=sg a++[c]++sg b++[c]) (B:=sg r) (C:=[]) (by rw [h];simp)
 have hl:x.length=(sg a).length+1+(sg b).length+1+(sg r).length:=by
   rw [←len_sg,h]
   simp only [ydq,ycb]
   omega
 rw [hl]
 simp only [ydq,ycb,List.length_nil,Nat.zero_add] at z1 z2 z3
 rw [z1,z2,z3]
def split_cons {x a r:Str} {c:Nat} (h:sg x=sg a++c::sg r) (ha:c∉sg a):Txt.split x ⟨#[c]⟩=a::Txt.split r ⟨#[c]⟩:=by
 have hp:=PyProof.Rows.split_pos r ⟨#[c]⟩
 have ne:Txt.split r ⟨#[c]⟩≠[]:=fun z=>by rw [z] at hp;exact absurd hp (by decide)
 have e:x=Txt.join ⟨#[c]⟩ (a::Txt.split r ⟨#[c]⟩):=by
   refine ext ?_
   have e1:=congrArg sg (StrLaws.join_split r ⟨#[c]⟩)
   rw [sg_join] at e1
   rw [txt_join,ycf,jn_cons (by simpa using ne),e1,h]
 rw [e]
 refine split_join (by simp) fun w hw=>?_
 rcases ybg.mp hw with rfl | hw
 · exact ha
 · exact StrLaws.split_free r c w hw
def split_nofree {x:Str} {c:Nat} (h:c∉sg x):Txt.split x ⟨#[c]⟩=[x]:=by
 have:=split_join (c:=c) (ws:=[x]) (by simp) (fun w hw=>by rw [yei.mp hw];exact h)
 exact this
end Tx
namespace L2
open PySem PySem.Spec PyProof.Rows
structure qvd (P:Program) (w:World) (K:PySem.W.Frag) (mg:Str→Option Value) (base:Heap) (C:Addr) (m:Str) (k:Nat) (ps:List Str) (sp:Sp) (f:Addr) (fd:FuncData):Prop where
 ok:qaQ P w K mg base (CX1 P w) k f fd ps sp
 me:qsg K C m f
 bd:qdx K fd ps []
structure qve (P:Program) (w:World) (K:PySem.W.Frag) (mg:Str→Option Value) (base:Heap) (C:Addr) (k:Nat) (ps:List Str) (sp:Sp) (f:Addr) (fd:FuncData):Prop where
 ok:qaQ P w K mg base (CX1 P w) k f fd ps sp
 mc:Mk K C f
 bd:qdx K fd ps []
section
variable {X:Cx} {k j:Nat} {f C:Addr} {fd:FuncData} {ps:List Str} {sp:Sp} {E:XK} {x m:Str} {p pos apos:Pos} {e o:Expr} {es:List Expr} {ta:TE} {t:TA}
end
def qtz (K:PySem.W.Frag) (a b:Addr):It :=
 ⟨fun i H=>∃xs ys x y,SqT K H a xs∧SqL K H b ys∧xs[i]?=some x∧ys[i]?=some y,fun i H v H'=>∃t,v = .ref t∧H t=none∧∀xs ys x y,SqT K H a xs→SqL K H b ys→xs[i]?=some x→ys[i]?=some y→H'=upd H t (.tup [x,y]),
   fun i H=>∃xs,SqT K H a xs∧xs.length≤i⟩
def qln {P:Program} {w:World} {K:PySem.W.Frag} {elts:List Expr} {x1:Nat} {pos:Pos} (a b z TI TO i1 i2:Addr) (D:ZipApart z TI TO i1 i2 a b):qnh P w K (.Tuple elts x1 pos) (qtz K a b) [z,TI,TO,i1,i2] z
   (fun i h=>IsZip h z TI TO .none∧IsPair h TI (.ref i1) (.ref i2)∧(∃c d,IsPair h TO c d)∧IsTupIter h i1 a i∧h.IsListIter i2 b i) where
 mem:=by simp
 obj:=fun i h st c hc=>by
   obtain ⟨hz,h1,⟨c1,d1,h2⟩,⟨o1,e1,_,q1⟩,⟨o2,e2,_,q2⟩⟩:=st
   simp only [ybg,ydz,or_false] at hc
   rcases hc with rfl | rfl | rfl | rfl | rfl
   · exact ⟨_,hz,fun v y=>by have y':Data.fields _=Data.cell v:=y;cases y'⟩
   · exact ⟨_,h1,fun v y=>by have y':Data.seq _ _=Data.cell v:=y;cases y'⟩
   · exact ⟨_,h2,fun v y=>by have y':Data.seq _ _=Data.cell v:=y;cases y'⟩
   · exact ⟨o1,e1,fun v y=>by rw [q1] at y;cases y⟩
   · exact ⟨o2,e2,fun v y=>by rw [q2] at y;cases y⟩
 keep:=fun i h h' st k=>by
   obtain ⟨hz,h1,⟨c1,d1,h2⟩,⟨o1,e1,q1⟩,h4⟩:=st
   exact ⟨k z (by simp) _ hz,k TI (by simp) _ h1,⟨c1,d1,k TO (by simp) _ h2⟩,⟨o1,k i1 (by simp) _ e1,q1⟩,h4.at fun o q=>k i2 (by simp) o q⟩
 item:=by
   intro X hP hw hK hc i pins s σ H E I hf st hg
   subst hP hw hK
   obtain ⟨xs,ys,x,y,hqa,hqb,hx,hy⟩:=hg
   obtain ⟨itsa,rva,pa,hza⟩:=I.tuple hqa
   obtain ⟨itsb,rvb,pb,hzb⟩:=I.list hqb
   obtain ⟨u,hu,ru⟩:=rva.get hx
   obtain ⟨v,hv,rv⟩:=rvb.get hy
   obtain ⟨hz,h1,⟨c1,d1,h2⟩,h3,h4⟩:=st
   have fr:=I.hok.fresh (yba s.heap.objs.size)
   have lt:∀c∈[z,TI,TO,i1,i2],c<s.heap.objs.size:=fun c hc=>by
     simp only [ybg,ydz,or_false] at hc
     rcases hc with rfl | rfl | rfl | rfl | rfl
     · exact ydv hz
     · exact ydv h1
     · exact ydv h2
     · obtain ⟨_,q,_⟩:=h3;exact ydv q
     · obtain ⟨_,q,_⟩:=h4;exact ydv q
   refine qpS D (Drw.tup D.l1i1) (Drw.list D.l2i2) hz h1 h2 ⟨h3,pa⟩ ⟨h4,pb.isList⟩ (x:=u) (y:=v) (by simpa using hu) (by simpa using hv) fun h' a1 a2 a3 a4 a5 hk=>⟨_,rfl,?_⟩
   refine wpAny_letOwnedTupleGo_zip (s:={ s with heap:=h' }) a1 fun g2 hz2 hs2=>?_
   have I1:Inv X pins σ (upd H s.heap.objs.size (.tup [x,y])) { s with heap:=s.heap.push { cls := .type "tuple",data := .seq #[u,v] },toks:=s.toks } :=
     I.laid (t':=s.toks) (fun b u e=>ydu _ e) (yba _) ⟨by simp;decide,[u,v],.cons ru (.cons rv .nil),⟨_,ydt _ rfl,rfl,_,rfl⟩⟩
   have up:∀c∈[z,TI,TO,i1,i2],upd H s.heap.objs.size (.tup [x,y]) c=none:=fun c hc=>by
     rw [qay (ydx (lt c hc))]
     exact (hf c hc).1
   have I2:Inv X pins σ (upd H s.heap.objs.size (.tup [x,y])) { s with heap:=g2,toks:=s.toks }
     := Inv.turnedL (s:={ s with heap:=s.heap.push { cls := .type "tuple",data := .seq #[u,v] },toks:=s.toks }) (h':=g2) (t':=s.toks) (ch:=[z,TI,TO,i1,i2]) I1 (fun b o hb q=>by
     simp only [ybg,ydz,or_false,not_or] at hb
     rw [hs2.2 b hb.1]
     by_cases c:b=s.heap.objs.size
     · subst c
       have q0:(s.heap.push { cls := .type "tuple",data := .seq #[u,v] }).get? s.heap.objs.size=some { cls := .type "tuple",data := .seq #[u,v] }:=ydt _ rfl
       have q1:(s.heap.push { cls := .type "tuple",data := .seq #[u,v] }).get? s.heap.objs.size=some o:=q
       rw [q0] at q1
       cases q1
       exact a5
     · have q1:(s.heap.push { cls := .type "tuple",data := .seq #[u,v] }).get? b=some o:=q
       rw [ygg _ _ _ c] at q1
       exact hk b o hb.1 hb.2.2.1 hb.2.2.2.1 hb.2.2.2.2 q1) (fun c hc=>⟨up c hc,(hf c hc).2⟩)
   refine ⟨.ref s.heap.objs.size,_,I2,rfl,⟨_,rfl,fr,fun xs' ys' x' y' hxa hyb hx' hy'=>?_⟩,⟨hz2,?_,⟨_,_,(hs2.2 TO D.TOz).trans a2⟩,?_,a4.1.at fun o q=>(hs2.2 i2 D.i2z).trans q⟩,up⟩
   · rw [I.tuple_inj hxa hqa,hx] at hx'
     rw [I.list_inj hyb hqb,hy] at hy'
     cases hx'
     cases hy'
     rfl
   · exact (hs2.2 TI D.TIz).trans (hk TI _ D.TIz D.TITO D.TIi1 D.TIi2 h1)
   · obtain ⟨o,e,r⟩:=a3.1
     exact ⟨o,(hs2.2 i1 D.i1z).trans e,r⟩
 done:=by
   intro X hP hw hK hc i pins s σ H E I hf st hg
   subst hP hw hK
   obtain ⟨xs,hqa,hx⟩:=hg
   obtain ⟨itsa,rva,pa,hza⟩:=I.tuple hqa
   obtain ⟨hz,h1,⟨c1,d1,h2⟩,h3,h4⟩:=st
   have la:=rva.length
   refine qrm (I.ok.hd hc) D (Drw.tup D.l1i1) hz h1 h2 ⟨h3,pa⟩ (by simp;omega) fun h' hk=>⟨rfl,I.turnedL (t':=s.toks) (ch:=[z,TI,TO,i1,i2]) (fun b o hb e=>?_) hf⟩
   simp only [ybg,ydz,or_false,not_or] at hb
   exact hk b o hb.1 hb.2.2.1 hb.2.2.2.1 hb.2.2.2.2 e
 self:=fun _ _ _ _ _ st h=>wpAny_pyIter_zip st.1 h
abbrev qtv (h:Heap) (l1:Addr):Heap:=h.push { cls := .type "tuple_iterator",data := .fields #[.ref l1,.int 0 0] }
abbrev qtt (h:Heap) (l1 l2:Addr):Heap:=(qtv h l1).push { cls := .type "list_iterator",data := .fields #[.ref l2,.int 0 0] }
abbrev qtx (h:Heap) (l1 l2:Addr):Heap:=(qtt h l1 l2).push { cls := .type "tuple",data := .seq #[.ref h.objs.size,.ref (qtv h l1).objs.size] }
abbrev qtw (h:Heap) (l1 l2:Addr):Heap:=(qtx h l1 l2).push { cls := .type "tuple",data := .seq #[.none,.none] }
abbrev qrr (h:Heap) (l1 l2:Addr):Heap:=(qtw h l1 l2).push { cls := .type "zip",data := .fields #[.none,.bool false,.bool false,.ref (qtt h l1 l2).objs.size,.ref (qtx h l1 l2).objs.size] }
def qkK (l1 l2:Addr) (xs ys:Array Value):Meets (Builtin.«zip.__new__» ⟨[.type "zip",.ref l1,.ref l2],[]⟩) (fun _ R s=>IsTup s.heap l1 xs∧s.heap.IsList l2 ys∧R (.ok (.ret (.ref (qtw s.heap l1 l2).objs.size))) { s with heap:=qrr s.heap l1 l2 }) :=
 .of_wp fun prog w A R s h=>by
   obtain ⟨hp,g,d,tk,os⟩:=s;obtain ⟨q1,q2,h⟩:=h;have hsub:=sub_zip
   have hL1:IsTup (Shared.heap ⟨hp,g,d,tk,os⟩) l1 xs:=q1
   have hL2:Heap.IsList (Shared.heap ⟨hp.push { cls := .type "tuple_iterator",data := .fields #[.ref l1,.int 0 0] },g,d,tk,os⟩) l2 ys:=Heap.IsList.push q2 _
   wp_walk using iter_tuple hL1,wpAny_pyIter_list hL2
   exact ⟨_,rfl,h⟩
def qkL {prog:Program} {w:World} {A:Around} {E:Value→Shared→Prop} {s:Shared} {l1 l2:Addr} {xs ys:Array Value} {Q:Value→Shared→Prop} (q1:IsTup s.heap l1 xs) (q2:s.heap.IsList l2 ys)
   (h:∀g,IsZip g (s.heap.objs.size+4) (s.heap.objs.size+2) (s.heap.objs.size+3) .none→IsPair g (s.heap.objs.size+2) (.ref s.heap.objs.size) (.ref (s.heap.objs.size+1))→IsPair g (s.heap.objs.size+3) .none .none→IsTupIter g s.heap.objs.size l1 0→g.IsListIter (s.heap.objs.size+1) l2 0 →
     (∀c o,s.heap.get? c=some o→g.get? c=some o)→Q (.ref (s.heap.objs.size+4)) { s with heap:=g }) :
   wpAny (model prog w) A (call (.type "zip") [.ref l1,.ref l2]) Q E s:=by
 refine callType_new F.called_zip (by decide) (F.typeCall_zip_2 _ _) (F.newCall_zip_2 _ _) (fun obj=>F.args_object_init_3 obj _ _) F.entry_zip_new (qkK l1 l2 xs ys) ⟨q1,q2,?_⟩
 have z1:(qtv s.heap l1).objs.size=s.heap.objs.size+1:=ydw ..
 have z2:(qtt s.heap l1 l2).objs.size=s.heap.objs.size+2:=by rw [ydw,z1]
 have z3:(qtx s.heap l1 l2).objs.size=s.heap.objs.size+3:=by rw [ydw,z2]
 have z4:(qtw s.heap l1 l2).objs.size=s.heap.objs.size+4:=by rw [ydw,z3]
 have k5:(qrr s.heap l1 l2).get? (qtw s.heap l1 l2).objs.size=some _:=ydt _ rfl
 have k4:(qrr s.heap l1 l2).get? (qtx s.heap l1 l2).objs.size=some _:=ydu _ (ydt _ rfl)
 have k3:(qrr s.heap l1 l2).get? (qtt s.heap l1 l2).objs.size=some _:=ydu _ (ydu _ (ydt _ rfl))
 have k2:(qrr s.heap l1 l2).get? (qtv s.heap l1).objs.size=some _:=ydu _ (ydu _ (ydu _ (ydt _ rfl)))
 have k1:(qrr s.heap l1 l2).get? s.heap.objs.size=some _:=ydu _ (ydu _ (ydu _ (ydu _ (ydt _ rfl))))
 show _∧_
 rw [z2,z3,z4] at k5;rw [z1,z2] at k3;rw [z3] at k4;rw [z1] at k2;rw [z4]
 exact ⟨⟨_,k5,rfl⟩,h _ k5 k3 k4 ⟨_,k1,rfl,rfl⟩ ⟨_,k2,rfl,rfl⟩ fun c o x=>ydu _ (ydu _ (ydu _ (ydu _ (ydu _ x))))⟩
section
variable {X:Cx} {K:PySem.W.Frag}
def qs0 (K:PySem.W.Frag) (ta:TA):TI:=fun σ H R=>ta σ H fun vs H1=>∃a b xs ys,vs=[.ref a,.ref b]∧SqT K H1 a xs∧SqL K H1 b ys∧R (qtz K a b) H1
def qrj {a b:Expr} {elts:List Expr} {x1:Nat} {tp:Pos} {ta:TA} {p pos:Pos} (hK:X.K=K) (hg:Gl X "zip") (hm:X.mg "zip" = none) (ha:PA X [a,b] ta) (hs:starEach [a,b] X.env=(false,eval a X.env)::starEach [b] X.env:=by rfl) (hs2:(backTo pos (starEach [b] X.env)).any (·.1)=false:=by rfl):PI X (.Tuple elts x1 tp) (.Call (.Name "zip" p) [a,b] [] pos) (qs0 K ta):=by
 subst hK
 intro pins s σ H R I h
 refine Call_ (qda I hg hm PyProof.Rows.boot_zip (PyProof.Rows.callWith_type1 (thn (ha pos pins s σ H _ I h) fun us s1 ⟨vs,H1,I1,r1,q1⟩=>?_) hs hs2))
 obtain ⟨l1,l2,xs,ys,rfl,hqa,hqb,q⟩:=q1
 obtain ⟨u,v,rfl,ru,rv⟩:=qlI r1
 cases ru
 cases rv
 obtain ⟨itsa,rva,pa,hza⟩:=I1.tuple hqa
 obtain ⟨itsb,rvb,pb,hzb⟩:=I1.list hqb
 have la:l1<s1.heap.objs.size:=by obtain ⟨_,q,_⟩:=pa;exact ydv q
 have lb:l2<s1.heap.objs.size:=by obtain ⟨_,q,_⟩:=pb.isList;exact ydv q
 generalize en:s1.heap.objs.size=n at la lb
 refine qkL pa pb.isList fun h' g1 g2 g3 g4 g5 hk=>?_
 rw [en] at g1 g2 g3 g4 g5 ⊢
 have I2:Inv X pins σ H1 { s1 with heap:=h' }:=I1.kept (t':=s1.toks) hk
 refine wpAny_pyIter_zip g1 ⟨n+4,[n+4,n+2,n+3,n,n+1],_,_,H1,rfl,I2,qln l1 l2 (n+4) (n+2) (n+3) n (n+1) ?_,⟨g1,g2,⟨_,_,g3⟩,g4,g5⟩,fun c hb=>?_,q⟩
 · have la':@LT.lt Nat _ l1 n:=la
   have lb':@LT.lt Nat _ l2 n:=lb
   constructor<;>(intro z;exact absurd (show @Eq Nat _ _ from z) (by omega))
 · have:n≤c:=by
     simp only [ybg,ydz,or_false] at hb
     rcases hb with rfl | rfl | rfl | rfl | rfl<;>omega
   exact I1.fpOk (by omega) (I1.hok.fresh (by omega))
end
section
variable {K:PySem.W.Frag} {g:TG} {tt:TT} {te:TE} {nt:Nat} {caps:List Nat} {σ:L2.St} {H:Hp} {a b:Addr} {ta:TA} {Q:VK}
def qnR:qgY nt caps (qs0 K ta) g tt te σ H Q↔ta σ H fun vs H1=>∃a b xs ys,vs=[.ref a,.ref b]∧SqT K H1 a xs∧SqL K H1 b ys∧qcx (qtz K a b) nt caps g tt te σ H1 Q:=Iff.rfl
def qrM {xs ys:List V} (hle:xs.length=ys.length) (Pv:Nat→List V→Hp→Prop) (h0:Pv 0 [] H) (hz:xs.length≤sizeLine) (hl:∀i zs H1,i≤xs.length→Pv i zs H1→SqT K H1 a xs∧SqL K H1 b ys∧zs.length≤i)
   (hs:∀i x y zs H1 t,xs[i]?=some x→ys[i]?=some y→Pv i zs H1→H1 t=none→∀(R:VK) (R':Hp→Prop),(∀v H2,Pv (i+1) (zs++[v]) H2→R v H2)→(∀H2,Pv (i+1) zs H2→R' H2) →
     g (.ref t) (qbT nt caps σ) (upd H1 t (.tup [x,y])) fun σ4 H4=>tt σ4 H4 fun b H5=>if b=true then te σ4 H5 R else R' H5)
   (hd:∀zs H1,Pv xs.length zs H1→∀p,H1 p=none→Q (.ref p) (upd H1 p (.lst zs))):qcx (qtz K a b) nt caps g tt te σ H Q:=by
 refine ⟨fun i m zs H1=>m=xs.length-i∧i≤xs.length∧Pv i zs H1,⟨_,rfl,ybz _,h0⟩,?_⟩
 rintro i m zs H2 ⟨rfl,hi,p⟩
 obtain ⟨hqa,hqb,hlen⟩:=hl i zs H2 hi p
 by_cases hlt:i<xs.length
 · have hx:xs[i]?=some xs[i]:=ycj hlt
   have hy:ys[i]?=some (ys[i]'(by omega)):=ycj _
   refine .inr ⟨⟨xs,ys,_,_,hqa,hqb,hx,hy⟩,by omega,fun x H3 y=>?_⟩
   obtain ⟨t,rfl,ht,y⟩:=y
   rw [y _ _ _ _ hqa hqb hx hy]
   exact hs i _ _ zs H2 t hx hy p ht _ _ (fun v H4 q=>⟨xs.length-(i+1),by omega,rfl,hlt,q⟩) fun H4 q=>⟨xs.length-(i+1),by omega,rfl,hlt,q⟩
 · obtain rfl:i=xs.length:=by omega
   exact .inl ⟨⟨xs,hqa,yba _⟩,by omega,fun p' hp'=>hd zs H2 p p' hp'⟩
end
end L2
namespace L2
open PySem PySem.Spec PyProof.Rows
def qoS:Sp:=fun _ _ _ _=>False
structure qgE (P:Program) (w:World) (K:PySem.W.Frag) (mg:Str→Option Value) (base:Heap) (C:Addr) (m:Str) (k:Nat) (ps:List Str) (sp:Sp) (f:Addr) (fd:FuncData):Prop where
 ok:qaQ P w K mg base CX0 k f fd ps sp
 me:qsg K C m f
 bd:qdx K fd ps []
structure qp5 (P:Program) (w:World) (K:PySem.W.Frag) (mg:Str→Option Value) (base:Heap) (C:Addr) (k:Nat) (ps:List Str) (sp:Sp) (f:Addr) (fd:FuncData):Prop where
 ok:qaQ P w K mg base CX0 k f fd ps sp
 mc:Mk K C f
 bd:qdx K fd ps []
section
variable {X:Cx} {k j:Nat} {f C:Addr} {fd:FuncData} {ps:List Str} {sp:Sp} {x m:Str} {p pos apos:Pos} {e o:Expr} {es:List Expr} {ta:TE} {t:TA}
def qbV {pl:Sem Bool} (he:PE X o ta) (c:Cls X.K C) (M:qgE X.prog X.w X.K X.mg X.base C m k ps sp f fd) (hr:qdB j X.A) (hj:k≤j) (ha:PA X (e::es) t)
 (hst:starEach (e::es) X.env=(false,eval e X.env)::starEach es X.env:=by rfl) (hpl:(backTo pos (starEach es X.env)).any (·.1)=false:=by rfl)
 (ht:eval (.Call (.Attribute o m apos) (e::es) [] pos) X.env=(do
   let ov ←eval o X.env
   standAt apos.atName
   let (f,first) ←holding [ov] (getMethod ov m pl)
   callWith pos f first (backTo pos (starEach (e::es) X.env)) (backToKw pos (keywordEach [] X.env))):=by rfl) :
 PE X (.Call (.Attribute o m apos) (e::es) [] pos) (qra C m sp [] E0 ta t):=qpX he c M.me M.ok (hr.mono hj) M.bd .nil qrh ha hst hpl ht
def qnq (M:qp5 X.prog X.w X.K X.mg X.base C k ps sp f fd) (hr:qdB j X.A) (hj:k+1≤j) (hg:Gl X x) (hm:X.mg x=some (.ref C)) (ha:PA X (e::es) t) (hdb:(x==("__debug__" : Str))=false:=by decide)
 (he:starEach (e::es) X.env=(false,eval e X.env)::starEach es X.env:=by rfl) (hpl:(backTo pos (starEach es X.env)).any (·.1)=false:=by rfl) :
 PE X (.Call (.Name x p) (e::es) [] pos) (qqm C sp [] E0 t):=qqM M.mc M.ok (hr.mono hj) hg hm M.bd .nil qrh ha hdb he hpl
end
def qi3:List (Str×List Str):=[("let",["new", "text"]),("hits",["new", "family"]),("rests",["new", "family"]),("either",["new", "family", "family"]),("both",["new", "family", "family"]),("in",["new", "family", "name"]),("out",["new", "family", "name"]),("show",["family"]),("says",["family", "set"]),("look",["family", "set"]),("held",["family", "family"]),("compare",["family", "name", "name"]),("turns",["family"]),("ranks",["family"]),("weights",["family"])]
def wanted (z:Str):Option (List Str):=qi3.lookup z
structure Wnt (P:Program) (w:World) (K:PySem.W.Frag) (aW:Addr):Prop where
 kv:∃kvs,KDt P w K aW kvs∧∀z ks,wanted z=some ks→∃t,qdc kvs (Sum.inr z)=some (.ref t)∧∀H,SqT K H t (sV ks)
structure Prt (z:Str) (d:Str) (r ks:List Str):Prop where
 hd:(Txt.split z " ")[0]?=some d
 kd:wanted d=some ks
 ps:(if d = "let" then Txt.splitMax z " " 2 else Txt.split z " ")=d::r
 ln:r.length=ks.length
 sz:z.length≤9000
inductive Th where
 | nm (z:Str) | fm (fs:List Nat) | nu (a:Nat)
def ThV (H:Hp):Th→V→Prop
 | .nm z,v=>v = .str z
 | .fm fs,v=>∃p,v = .ref p∧H p=some (.lst (nV fs))
 | .nu a,v=>v = .int (a:Nat)
def ThV.same {H H':Hp} (s:qar H H'):∀{th:Th} {v:V},ThV H th v→ThV H' th v
 | .nm _,_,h=>h
 | .fm _,_,⟨p,e,h⟩=>⟨p,e,s _ _ h⟩
 | .nu _,_,h=>h
structure Fml (n:Nat) (fs:List Nat):Prop where
 rise:fs.Pairwise (· < ·)
 lt:∀b∈fs,b<2^n
 few:fs.length≤70
inductive Thg (ws:List Str) (m:List (Str×List Nat)):Str→Str→Th→Prop
 | new {w:Str}:Tx.Wd w→Thg ws m "new" w (.nm w)
 | fam {w:Str} {fs:List Nat}:m.lookup w=some fs→Thg ws m "family" w (.fm fs)
 | name {w:Str}:w∈ws→Thg ws m "name" w (.nu (ws.idxOf w))
 | set {a:Nat}:a<2^ws.length→Thg ws m "set" (Tx.sT ws a) (.nu a)
 | text {fs:List Nat}:Fml ws.length fs→Thg ws m "text" (Tx.fT ws fs) (.fm fs)
def qpe (pw pk:Addr):List (Str×V):=[("words",.ref pw),("kept",.ref pk)]
def kne:¬(("words" : Str) = "kept"):=by decide +kernel
def qhW (pw pk:Addr):(qpe pw pk).lookup ("words" : Str)=some (.ref pw):=by
 unfold qpe
 rw [yfu]
 simp
def qil (pw pk:Addr):(qpe pw pk).lookup ("kept" : Str)=some (.ref pk):=by
 unfold qpe
 rw [yfu,show (("kept" : Str) == "words")=false from beq_eq_false_iff_ne.mpr fun e=>kne e.symm]
 simp
def qcH (pw pk:Addr) {m:Str} (h1:(m==("words" : Str))=false) (h2:(m==("kept" : Str))=false):(qpe pw pk).lookup m=none:=by
 unfold qpe
 simp only [List.lookup,h1,h2]
def qoG (pw pk:Addr):qhc "kept" (.ref pk) (qhc "words" (.ref pw) [])=qpe pw pk:=by
 show (if ("words" : Str) = "kept" then _ else _)=_
 rw [if_neg kne]
 rfl
def Kps (H:Hp) (kvs:List (Key×V)) (m:List (Str×List Nat)):Prop :=
 kvs.length=m.length∧∀n:Str,match m.lookup n with
   | some fs=>∃p,qdc kvs (Sum.inr n)=some (.ref p)∧H p=some (.lst (nV fs))
   | none=>qdc kvs (Sum.inr n)=none
def Kps.same {H H':Hp} {kvs:List (Key×V)} {m:List (Str×List Nat)} (k:Kps H kvs m) (s:∀p fs,H p=some (.lst (nV fs))→H' p=some (.lst (nV fs))):Kps H' kvs m:=by
 refine ⟨k.1,fun n=>?_⟩
 have h:=k.2 n
 cases e:m.lookup n with
 | none=>rw [e] at h;exact h
 | some fs =>
   rw [e] at h
   obtain ⟨p,h1,h2⟩:=h
   exact ⟨p,h1,s p fs h2⟩
def Kps.get {H:Hp} {kvs:List (Key×V)} {m:List (Str×List Nat)} (k:Kps H kvs m) {n:Str} {fs:List Nat} (e:m.lookup n=some fs):∃p,qdc kvs (Sum.inr n)=some (.ref p)∧H p=some (.lst (nV fs)):=by
 have h:=k.2 n
 rw [e] at h
 exact h
def Kps.no {H:Hp} {kvs:List (Key×V)} {m:List (Str×List Nat)} (k:Kps H kvs m) {n:Str} (e:m.lookup n=none):qdc kvs (Sum.inr n)=none:=by
 have h:=k.2 n
 rw [e] at h
 exact h
def qkm:List (Str×List Nat)→Str→List Nat→List (Str×List Nat)
 | [],n,fs=>[(n,fs)]
 | (x,gs)::r,n,fs=>if x=n then (x,fs)::r else (x,gs)::qkm r n fs
def qbo (n x:Str) (fs:List Nat):∀m:List (Str×List Nat),(qkm m n fs).lookup x=if x=n then some fs else m.lookup x
 | []=>by
   show List.lookup x [(n,fs)]=_
   by_cases h:x=n
   · simp [h]
   · simp [List.lookup,h,beq_eq_false_iff_ne.mpr h]
 | (y,gs)::r=>by
   have ih:=qbo n x fs r
   show List.lookup x (if y=n then (y,fs)::r else (y,gs)::qkm r n fs)=_
   by_cases h:y=n
   · rw [if_pos h]
     by_cases g:x=n
     · subst h;subst g;simp
     · have:(x==y)=false:=beq_eq_false_iff_ne.mpr fun e=>g (e.trans h)
       simp only [List.lookup,this,if_neg g]
   · rw [if_neg h]
     by_cases g:x=y
     · subst g;simp [if_neg h]
     · have:(x==y)=false:=beq_eq_false_iff_ne.mpr g
       simp only [List.lookup,this]
       exact ih
def qcn (n:Str) (fs:List Nat):∀m:List (Str×List Nat),(qkm m n fs).length=m.length+if (m.lookup n).isSome then 0 else 1
 | []=>rfl
 | (y,gs)::r=>by
   have ih:=qcn n fs r
   show (if y=n then (y,fs)::r else (y,gs)::qkm r n fs).length=_
   by_cases h:y=n
   · rw [if_pos h]
     subst h
     simp
   · rw [if_neg h,ycb,ih,ycb]
     have:(n==y)=false:=beq_eq_false_iff_ne.mpr fun e=>h e.symm
     simp only [List.lookup,this]
     omega
def qkA (kvs:List (Key×V)) (k:Key) (v:V):(qip kvs k v).length=kvs.length+if (qdc kvs k).isSome then 0 else 1:=by
 unfold qip
 rw [qdO]
 cases (qdc kvs k).isSome<;>simp
def Kps.put {H:Hp} {kvs:List (Key×V)} {m:List (Str×List Nat)} (k:Kps H kvs m) {n:Str} {fs:List Nat} {p:Addr} (h:H p=some (.lst (nV fs))):Kps H (qip kvs (Sum.inr n) (.ref p)) (qkm m n fs):=by
 refine ⟨?_,fun x=>?_⟩
 · rw [qkA,qcn,k.1]
   have e:=k.2 n
   cases c:m.lookup n with
   | none=>rw [c] at e;rw [e];rfl
   | some gs =>
     rw [c] at e
     obtain ⟨q,e1,_⟩:=e
     rw [e1]
     rfl
 · rw [qbo,qoj]
   by_cases g:x=n
   · rw [if_pos g,if_pos (by rw [g])]
     exact ⟨p,rfl,h⟩
   · rw [if_neg g,if_neg (fun e=>g (Sum.inr.inj e))]
     exact k.2 x
structure qgV (C:Addr) (H:Hp) (d pk:Addr) (ws:List Str) (m:List (Str×List Nat)):Prop where
 ob:∃dx pw,H d=some (.ins C dx (qpe pw pk))∧H pw=some (.lst (sV ws))
 dc:∃kvs,H pk=some (.dK kvs)∧Kps H kvs m
 wd:Tx.Wds ws
 fm:∀n fs,m.lookup n=some fs→Fml ws.length fs
 ms:m.length≤20
def qgV.same {C:Addr} {H H':Hp} {d pk:Addr} {ws:List Str} {m:List (Str×List Nat)} (D:qgV C H d pk ws m) (s:qar H H'):qgV C H' d pk ws m:=by
 obtain ⟨dx,pw,h1,h2⟩:=D.ob
 obtain ⟨kvs,h3,h4⟩:=D.dc
 exact ⟨⟨dx,pw,s _ _ h1,s _ _ h2⟩,⟨kvs,s _ _ h3,h4.same fun p fs h=>s _ _ h⟩,D.wd,D.fm,D.ms⟩
def SmB (pk:Addr) (H H':Hp):Prop:=∀b o,H b=some o→b≠pk→H' b=some o
section
variable {K:PySem.W.Frag} {D:qf2} {σ:L2.St} {H:Hp} {u:TS} {ta tv td ty:TE} {f:Str}
def qnN:qmS (qtC K ta tv f) u D σ H↔tv σ H fun y H1=>ta σ H1 fun x H2=>∃a C dx fs,x = .ref a∧H2 a=some (.ins C dx fs)∧Cls K C∧qdQ K C f∧fs.length<1000∧u D σ (upd H2 a (.ins C dx (qhc f y fs))):=Iff.rfl
def ql2:qmS (qq5 td ty tv) u D σ H↔tv σ H fun v H1=>td σ H1 fun x H2=>ty σ H2 fun y H3=>∃a H4,x = .ref a∧qrp H3 a y v H4∧u D σ H4:=Iff.rfl
end
def qhH (H:Hp) (ths:List Th) (vs:List V):Prop:=ths.length=vs.length∧∀(i:Nat) (th:Th) (v:V),ths[i]?=some th→vs[i]?=some v→ThV H th v
def qhH.same {H H':Hp} {ths:List Th} {vs:List V} (h:qhH H ths vs) (s:qar H H'):qhH H' ths vs:=⟨h.1,fun i th v h1 h2=>(h.2 i th v h1 h2).same s⟩
def qhH.nil {H:Hp}:qhH H [] []:=⟨rfl,fun i th v h1 h2=>by cases h1⟩
def qhH.snoc {H:Hp} {ths:List Th} {vs:List V} {th:Th} {v:V} (h:qhH H ths vs) (h2:ThV H th v):qhH H (ths++[th]) (vs++[v]):=by
 refine ⟨by rw [ydq,ydq,h.1];rfl,fun i t u h3 h4=>?_⟩
 by_cases c:i<ths.length
 · rw [yfe c] at h3
   rw [yfe (by rw [←h.1];exact c)] at h4
   exact h.2 i t u h3 h4
 · rw [yfc (by omega)] at h3
   rw [yfc (by rw [←h.1];omega),←h.1] at h4
   cases e:i-ths.length with
   | zero =>
     rw [e] at h3 h4
     cases h3
     cases h4
     exact h2
   | succ j=>rw [e] at h3;cases h3
def qhH.cons {H:Hp} {ths:List Th} {vs:List V} {th:Th} (h:qhH H (th::ths) vs):∃v us,vs=v::us∧ThV H th v∧qhH H ths us:=by
 cases vs with
 | nil=>exact absurd h.1 (by simp)
 | cons v us=>exact ⟨v,us,rfl,h.2 0 th v rfl rfl,by have:=h.1;simpa using this,fun i t u h1 h2=>h.2 (i+1) t u (by simpa using h1) (by simpa using h2)⟩
def qhH.empty {H:Hp} {vs:List V} (h:qhH H [] vs):vs=[]:=yec.mp h.1.symm
def qkH (ws:List Str) (m:List (Str×List Nat)) (ks r:List Str) (ths:List Th):Prop:=ths.length=ks.length∧∀(i:Nat) (k w:Str) (th:Th),ks[i]?=some k→r[i]?=some w→ths[i]?=some th→Thg ws m k w th
end L2
namespace L2
open PySem PySem.Spec PyProof.Rows
def pre:List Str→Str→Str
 | [],w=>w
 | d::ds,w=>d ++ " " ++ pre ds w
def qpE (x y:Str):Tx.sg (x++y)=Tx.sg x++Tx.sg y:=by
 show (x.cps++y.cps).toList=_
 simp [Tx.sg]
def ql1 (d:Str) (ds:List Str) (w:Str):Tx.sg (pre (d::ds) w)=Tx.sg d++32::Tx.sg (pre ds w):=by
 show Tx.sg (d ++ " " ++ pre ds w)=_
 rw [qpE,qpE,Tx.lit_space,ydk]
 rfl
def qfy:∀(ds:List Str) (w:Str),(∀d∈ds,32∉Tx.sg d)→Txt.split (pre ds w) " " = ds++Txt.split w " "
 | [],w,_=>rfl
 | d::ds,w,h=>by
   rw [Tx.lit_space,Tx.split_cons (ql1 d ds w) (h d ybe),←Tx.lit_space,qfy ds w fun x hx=>h x (ybh _ hx)]
   rfl
def qkP {d w:Str} {ds ks:List Str} (h1:wanted d=some ks) (hd:¬d = "let") (hf:∀x∈d::ds,32∉Tx.sg x) (hw:32∉Tx.sg w) (hl:ds.length+1=ks.length) (hz:(pre (d::ds) w).length≤9000):Prt (pre (d::ds) w) d (ds++[w]) ks:=by
 have e:Txt.split (pre (d::ds) w) " " = d::(ds++[w]):=by
   rw [qfy _ _ hf,Tx.lit_space,Tx.split_nofree hw]
   rfl
 exact ⟨by rw [e];rfl,h1,by rw [if_neg hd,e],by rw [ydq,←hl];rfl,hz⟩
def qpR {n w:Str} (hn:32∉Tx.sg n) (hz:(pre ["let",n] w).length≤9000):Prt (pre ["let",n] w) "let" [n,w] ["new", "text"]:=by
 have hl:32∉Tx.sg ("let" : Str):=by decide +kernel
 refine ⟨?_,by decide +kernel,?_,rfl,hz⟩
 · rw [qfy _ _ fun d hd=>?_]
   · rfl
   · rcases ybg.mp hd with rfl | hd
     · exact hl
     · rw [yei.mp hd]
       exact hn
 · rw [if_pos rfl,Tx.lit_space]
   refine Tx.max_two (by decide) ?_ hl hn
   rw [ql1,ql1]
   rfl
def qun:R2:=fun x y H Q=>(∃z:Str,x = .str z∧y = .int 0∧Q (.str Str.empty) H)∨qsR x y H Q
def qq8 {X:Cx}:OpR X (binaryOp .Mult) (fun x y H Q=>∃z:Str,x = .str z∧y = .int 0∧Q (.str Str.empty) H):=by
 intro pins s σ H x y v u Q I rx ry h
 obtain ⟨z,rfl,rfl,q⟩:=h
 obtain ⟨t,rfl⟩:=rx
 obtain ⟨t',rfl⟩:=ry
 exact P.mul_str_none (by decide) (by decide) ⟨.str _,H,I.tok _,⟨_,rfl⟩,q⟩
def qqr {X:Cx}:OpR X (binaryOp .Mult) qun:=qq8.or qpY
def qfU {ws:List Str} {m:List (Str×List Nat)} {k w:Str} {th:Th} (h:Thg ws m k w th):qkH ws m [k] [w] [th]:=by
 refine ⟨rfl,fun i k' w' th' h1 h2 h3=>?_⟩
 cases i with
 | zero=>cases h1;cases h2;cases h3;exact h
 | succ j=>cases h1
def qkH.cons {ws:List Str} {m:List (Str×List Nat)} {k w:Str} {th:Th} {ks r:List Str} {ths:List Th} (h:Thg ws m k w th) (t:qkH ws m ks r ths):qkH ws m (k::ks) (w::r) (th::ths):=by
 refine ⟨by rw [ycb,ycb,t.1],fun i k' w' th' h1 h2 h3=>?_⟩
 cases i with
 | zero=>cases h1;cases h2;cases h3;exact h
 | succ j=>exact t.2 j k' w' th' (by simpa using h1) (by simpa using h2) (by simpa using h3)
end L2
namespace L2
open PySem PySem.Spec PyProof.Rows
end L2
namespace L2
open PySem PySem.Spec PyProof.Rows
def qbL {K:PySem.W.Frag} {t:Addr} {od:Option Addr} {its:Array Value} {n:Nat} {sl:Array (Option Value)} {ks:List Str} (l:K.lookup t=some ⟨.type "tuple",od,.seq its n,sl⟩) (hs:its.size≤100000) (v:qaV (sV ks) its.toList):∀H,SqT K H t (sV ks) :=
 fun H => .inr ⟨_,its,n,l,rfl,rfl,qaq hs,v⟩
def qtr (K:PySem.W.Frag) (w:World):List (Str×List Str)→List DictEntry→Prop
 | [],[]=>True
 | (z,ks)::r,e::es=>(∃(tk:Tok) (t:Addr),e=⟨hashStr w z,.str z tk,.ref t⟩∧∀H,SqT K H t (sV ks))∧qtr K w r es
 | _,_=>False
def qmy {P:Program} {w:World} {K:PySem.W.Frag}:∀{S:List (Str×List Str)} {es:List DictEntry},qtr K w S es →
   ∃(kvs:List (Key×V)) (vs:List (Key×Value)),KV kvs vs∧(∀e∈es,∃k,(qa0 P w).is k e.key=true∧e.hash=(qa0 P w).hash k)∧Pairs (qa0 P w) es vs∧vs.map (·.1)=S.map (fun p=>Sum.inr p.1) ∧
     ∀z ks,S.lookup z=some ks→∃t,qdc kvs (Sum.inr z)=some (.ref t)∧∀H,SqT K H t (sV ks)
 | [],[],_=>⟨[],[],.nil,fun e h=>(by cases h),.nil,rfl,fun z ks h=>by cases h⟩
 | [],_::_,h=>h.elim
 | _::_,[],h=>h.elim
 | (y,us)::S,e::es,h=>by
   obtain ⟨⟨tk,t,rfl,ht⟩,hr⟩:=h
   obtain ⟨kvs,vs,h1,h2,h3,h4,h5⟩:=qmy (P:=P) hr
   refine ⟨(Sum.inr y,.ref t)::kvs,(Sum.inr y,.ref t)::vs,.cons ⟨rfl,rfl⟩ h1,fun e he=>?_,.cons ?_ rfl h3,by rw [ycf,ycf,h4],fun z ks hz=>?_⟩
   · rcases ybg.mp he with rfl | he
     · exact ⟨Sum.inr y,(by show Value.isStrOf y (.str y tk)=true;simp [Value.isStrOf]),rfl⟩
     · exact h2 e he
   · show Value.isStrOf y (.str y tk)=true
     simp [Value.isStrOf]
   · rw [yfu] at hz
     by_cases c:z=y
     · subst c
       simp at hz
       subst hz
       exact ⟨t,by unfold qdc;simp,ht⟩
     · rw [beq_eq_false_iff_ne.mpr c] at hz
       obtain ⟨t',e1,e2⟩:=h5 z ks hz
       refine ⟨t',?_,e2⟩
       unfold qdc at e1 ⊢
       rw [List.find?_cons_of_neg (by simp only [decide_eq_true_eq];exact fun e=>c (Sum.inr.inj e).symm)]
       exact e1
def qsf {P:Program} {w:World} {K:PySem.W.Frag} {aW:Addr} {es:Array DictEntry} {ep:Nat} (l:K.lookup aW=some ⟨.type "dict",none,.dict es ep,#[]⟩) (hn:(aW==sysModules)=false) (h:qtr K w qi3 es.toList):Wnt P w K aW:=by
 obtain ⟨kvs,vs,h1,h2,h3,h4,h5⟩:=qmy (P:=P) h
 refine ⟨kvs,⟨hn,_,vs,l,h1,fun hp hg=>⟨_,es,ep,hg,⟨rfl,rfl,rfl⟩,rfl,fun e he=>h2 e (yey.mpr he),h3,?_⟩⟩,h5⟩
 rw [h4]
 have nd:(qi3.map (·.1)).Nodup:=by decide +kernel
 have:qi3.map (fun p=>(Sum.inr p.1:Key))=(qi3.map (·.1)).map Sum.inr:=by rw [ycv];rfl
 rw [this]
 exact List.Pairwise.map _ (fun a b hab e=>hab (Sum.inr.inj e)) nd
end L2
namespace L2
open PySem PySem.Spec PyProof.Rows
section
variable {prog:Program} {w:World} {A:Around} {E:Value→Shared→Prop} {s:Shared}
end
section
variable {X:Cx} {pos:Pos}
def quV (K:PySem.W.Frag) (n:Nat) (t:TGs):TG:=fun v σ H Q=>∃a xs,v = .ref a∧SqL K H a xs∧xs.length=n∧t xs σ H Q
end
end L2
open L2 in
local macro_rules | `(tactic| walk_at "rd")=>`(tactic| simp only [qnt,qkQ,qnG,qkB,qoJ,qqI,ite_true,ite_false,qlP,qtF,quc,qpI,qru,qhp,qtJ,tC,tOp,tUn,rU,qrW,tB,qus,tOr,qux,qsu,qu0,qsD,qdL,qtp,qnL,tCB,quB,quu,qo3,tBM,quF,qpm,qlk,qs6,qpJ,qqs,qqG,qu2,quE,qq5,qrV,qt0,qox,qtZ,qqK,qoM,qoz,tSl,qmG,qsP,quI,quV,qt8,qu6,qq9,qp9,qrO,qsM,quD,qsr,qpQ,qnK,qnR,qnN,ql2,qtC,quR,qlF,qrw,qs8,qra,qqm,quH,tIf,qu9,qqp,
 qsp,qrL,qrZ,qta,qoU,qpq,qqo,qrR,qrx,qsy,qsV,qsc,qso,qtc,qsq,qtL,que,qt5,qtG,qtB,qtV,qtK,qtM,qug,qtO,quP,qju,
 qbT,yfl,List.replicate_zero,ycf,yfi,Option.join_some,rIn,yed,yfs,List.nil_append,ygy,ygx,List.set_cons_zero,List.set_cons_succ,Option.some.injEq,List.cons.injEq,V.int.injEq,V.bl.injEq,V.ref.injEq,V.ty.injEq,V.str.injEq,and_true,true_and,exists_eq_left,exists_eq_left',exists_and_left,exists_eq',exists_eq,reduceCtorEq,false_and,exists_false,or_false,false_or,decide_eq_true_eq,yaz,Bool.not_eq_eq_eq_not,Bool.not_true,decide_eq_false_iff_not])
namespace Zk49
set_option maxHeartbeats 4000000
open PySem L2 PyProof.Rows
def top (i:Nat):Stmt:=PySem.Challenge.pw_allhits_k49_what_a_desk_answers.main.body.getD i (.Pass ⟨0,0,0,0⟩)
structure Txt (mg:Str→Option Value):Prop where
 n_isinstance:mg "isinstance" = none
 n_int:mg "int" = none
 n_bool:mg "bool" = none
 n_len:mg "len" = none
 n_range:mg "range" = none
 n_sorted:mg "sorted" = none
 n_set:mg "set" = none
 n_list:mg "list" = none
 n_str:mg "str" = none
 n_all:mg "all" = none
 n_reversed:mg "reversed" = none
 n_enumerate:mg "enumerate" = none
 n_sum:mg "sum" = none
 n_max:mg "max" = none
 n_min:mg "min" = none
 n_zip:mg "zip" = none
 c_MOST_SETS:∃t,mg "MOST_SETS" = some (.int 70 t)
 c_MOST_LETTERS:∃t,mg "MOST_LETTERS" = some (.int 8 t)
 c_MOST_NAMES:∃t,mg "MOST_NAMES" = some (.int 8 t)
 c_NO_SETS:∃t,mg "NO_SETS" = some (.str "none" t)
 c_NO_NAMES:∃t,mg "NO_NAMES" = some (.str "-" t)
 c_MOST_WEIGHT:∃t,mg "MOST_WEIGHT" = some (.int 5 t)
 c_MOST_VOTERS:∃t,mg "MOST_VOTERS" = some (.int 5 t)
 c_MOST_KEPT:∃t,mg "MOST_KEPT" = some (.int 20 t)
def fsc {N P:List Str} {sc:Scope} (h1:sc.kind = .function:=by rfl) (h2:sc.isCoroutine=false:=by rfl) (h3:sc.isGenerator=false:=by rfl) (h4:N.Nodup:=by decide +kernel) (h5:N.take P.length=P:=by rfl) (h6:∀x∈P,sc.names.lookup x=some .local∨sc.names.lookup x=some .cell:=by decide +kernel) (h7:∀y∈sc.names,y.2 ≠ .free:=by decide +kernel):qam N P sc:=⟨h1,h2,h3,h4,h5,h6,h7⟩
def pec {X:Cx} {x:Str} {p pos:Pos} {e:Expr} {es:List Expr} {t:TA} {k j:Nat} {ps:List Str} {sp:Sp} {f:Addr} {fd:FuncData} (C:Cal X.prog X.w X.K X.mg X.base x k ps sp f fd) (hr:qdB j X.A) (ha:PA X (e::es) t) (hj:k≤j:=by decide) (hg:Gl X x:=by rfl) (hdb:(x==("__debug__" : Str))=false:=by decide)
 (he:starEach (e::es) X.env=(false,eval e X.env)::starEach es X.env:=by rfl) (hpl:(backTo pos (starEach es X.env)).any (·.1)=false:=by rfl):PE X (.Call (.Name x p) (e::es) [] pos) (qnL sp [] E0 t):=qoW C hr hj hg ha hdb he hpl
section
variable {P:Program} {w:World} {K:W.Frag} {mg:Str→Option Value} {base:Heap}
abbrev qer:Stmt:=top 9
def qfl:qam ["thing"] ["thing"] (qag qer):=fsc
/-- the class and the table of the text -/
structure Xt (P:Program) (w:World) (K:W.Frag) (mg:Str→Option Value) (cD aW:Addr):Prop where
 gDesk:mg "Desk" = some (.ref cD)
 cl:Cls K cD
 nw:qdQ K cD "words"
 nk:qdQ K cD "kept"
 gW:mg "WANTED" = some (.ref aW)
 wn:Wnt P w K aW
def qlM:Sp:=sp1 fun x H Q=>∃t,qnb H x=some t∧Q (.bl (qnj t "int" && !qnj t "bool")) H
def qon {t:String} (h:t ≠ "int"):(qnj t "int" && !qnj t "bool")=false:=by
 have e:(t == "int")=false:=by simpa using h
 unfold qnj
 rw [e]
 cases (t == "bool")<;>rfl
def qiA {f:Addr} {fd:FuncData} (F:Fun K "is_whole" "is_whole" qer f fd) (T:Txt mg)  : qaQ P w K mg base CX0 1 f fd ["thing"] qlM:=by
 have sc:=qfl
 refine F.ok qfl (fun vs H Q E h=>by obtain ⟨_,rfl,_⟩:=h;rfl) (fun cdv A outer s H vs Q E hr h=>?_)
 obtain ⟨x0,rfl,h⟩:=h
 refine ⟨_,(qad (qai (qjz (qav qbp (by rfl) T.n_isinstance PyProof.Rows.boot_isinstance (qaa (pv 0) (qaa (qed (v := .ty "int") (by rfl) T.n_int PyProof.Rows.boot_int rfl) qab))) (qjE (qs4 (qav qbp (by rfl) T.n_isinstance PyProof.Rows.boot_isinstance (qaa (pv 0) (qaa (qed (v := .ty "bool") (by rfl) T.n_bool PyProof.Rows.boot_bool rfl) qab)))))))),?_⟩
 refine rdg (σ':=[some x0]) rfl ?_
 obtain ⟨t,hk,q⟩:=h
 walk_at "rd"
 refine ⟨x0, "int",⟨rfl,rfl⟩,t,hk,by decide,?_⟩
 split
 · rename_i h1
   refine ⟨x0, "bool",⟨rfl,rfl⟩,t,hk,by decide,?_⟩
   rw [h1,yfw] at q
   exact q
 · rename_i h1
   have h2:qnj t "int" = false:=by simpa using h1
   rw [h2,yeu] at q
   exact q
abbrev qdu:Stmt:=top 85
def qeG:qam ["_law_script", "_law_k", "_law_number"] ["_law_script", "_law_k"] (qag qdu):=fsc
def qma (K:W.Frag):Sp:=sp2 fun x y H Q=>∃(a:Addr) (ns:List Int) (k:Nat),x = .ref a∧SqL K H a (ns.map V.int)∧ns.length≤63∧y = .int k∧k≤1000∧∀z:Int,Q (.int z) H
def qmK {ns:List Int} {i:Int} (h0:0≤i) (h1:i<ns.length):∃z,atI (ns.map V.int) i=some (.int z):=by
 refine ⟨ns[i.toNat]'(by omega),?_⟩
 unfold atI ixN
 rw [if_pos h0,if_pos (by rw [ycd];exact h1)]
 simp [ycj (show i.toNat<ns.length by omega)]
def qhA {f:Addr} {fd:FuncData} (F:Fun K "_law_cell" "_law_cell" qdu f fd) (T:Txt mg)  : qaQ P w K mg base CX0 1 f fd ["_law_script", "_law_k"] (qma K):=by
 have sc:=qeG
 refine F.ok qeG (fun vs H Q E h=>by obtain ⟨_,_,rfl,_⟩:=h;rfl) (fun cdv A outer s H vs Q E hr h=>?_)
 obtain ⟨x0,x1,rfl,h⟩:=h
 refine ⟨_,(qac (qaB (qal qol (pv 1) (qav (qaO (K:=K) rfl) (by rfl) T.n_len PySem.boot_len (qaa (pv 0) qab)) (qas _)) (qad (qai (qaA (qaS (K:=K) rfl) (pv 0) (pv 1) (fun _ _=>rfl)))) qak)
   (qac (qat (i:=2) sc.nd rfl (Or.inl rfl) (qap qa4 (qap qcr (pv 1) qae) qae))
   (qac (qaB (qal qkg (qav (qaO (K:=K) rfl) (by rfl) T.n_len PySem.boot_len (qaa (pv 0) qab)) qae (qas _)) (qad (qat (i:=2) sc.nd rfl (Or.inl rfl) (qap qaW (qap qa4 (qap qcr (qaA (qaS (K:=K) rfl) (pv 0) (qap qaW (qap qcr (pv 1) qae) (qav (qaO (K:=K) rfl) (by rfl) T.n_len PySem.boot_len (qaa (pv 0) qab))) (fun _ _=>rfl)) qae) (qap qcr (pv 1) qae)) qae))) qak)
   (qad (qai (qap qaW (qap qcr (pv 2) (pv 2)) qae)))))),?_⟩
 refine rdg (σ':=[some x0,some x1,none]) rfl ?_
 obtain ⟨a,ns,k,rfl,hS,hl,rfl,hk,q⟩:=h
 walk_at "rd"
 refine ⟨_,.inl hS,?_⟩
 rw [ycd]
 split
 · rename_i hc
   obtain ⟨z,hz⟩:=qmK (ns:=ns) (i:=k) (by omega) (by omega)
   exact qaP hS hz (q z)
 rename_i hc
 refine ⟨.inl ⟨by omega,by omega⟩,?_⟩
 have fin:∀z:Int,0≤z→z<2147483647→qts z z:=fun z h0 h1 => .inl ⟨by omega,by omega⟩
 refine qbR (fun σ' H'=>∃z:Int,0≤z∧z<10000000000∧σ'=[some (V.ref a),some (V.int k),some (V.int z)]∧H'=H) ?_ fun N hN=>?_
 · rintro σ' H' ⟨z,z0,z1,rfl,rfl⟩
   (try walk_at "rd")
   exact ⟨.inl ⟨by omega,by omega⟩,by decide,q _⟩
 · (try walk_at "rd")
   refine ⟨_,.inl hS,?_⟩
   rw [ycd]
   split
   · rename_i h0
     refine ⟨.inl ⟨by omega,by omega⟩,_,.inl hS,by rw [ycd];omega,?_⟩
     rw [ycd]
     have e0:=ygz ((k:Int)*7) (show (ns.length:Int)≠0 by omega)
     have e1:=yha ((k:Int)*7) (show (0:Int)<ns.length by omega)
     obtain ⟨z,hz⟩:=qmK (ns:=ns) e0 e1
     refine qaP hS hz ?_
     (try walk_at "rd")
     refine ⟨.inr ⟨by decide,by decide⟩,.inl ⟨by omega,by omega⟩,by decide,hN _ _ ⟨_,ygz _ (by decide),?_,rfl,rfl⟩⟩
     have:=yha (z*48271+(k:Int)*7919) (show (0:Int)<2147483647 by decide)
     omega
   · exact hN _ _ ⟨_,by omega,by omega,rfl,rfl⟩
abbrev qeg:Stmt:=top 86
def qfh:qam ["_law_cell_here", "_law_k", "_law_number"] ["_law_cell_here", "_law_k"] (qag qeg):=fsc
def qaU (c:Int) (k:Nat):Nat:=((c%2147483647*48271+(k:Int)*k*69621+k+11)%2147483629*((c%2147483647*48271+(k:Int)*k*69621+k+11)%2147483629)%2147483587).toNat
def qm1:Sp:=sp2 fun x y H Q=>∃(c:Int) (k:Nat),x = .int c∧y = .int k∧k≤1000∧Q (.int (qaU c k:Nat)) H
def qi1 {f:Addr} {fd:FuncData} (F:Fun K "_law_mix" "_law_mix" qeg f fd) (T:Txt mg)  : qaQ P w K mg base CX0 1 f fd ["_law_cell_here", "_law_k"] qm1:=by
 have sc:=qfh
 refine F.ok qfh (fun vs H Q E h=>by obtain ⟨_,_,rfl,_⟩:=h;rfl) (fun cdv A outer s H vs Q E hr h=>?_)
 obtain ⟨x0,x1,rfl,h⟩:=h
 refine ⟨_,(qac (qat (i:=2) sc.nd rfl (Or.inl rfl) (qap qaW (qap qa4 (qap qa4 (qap qa4 (qap qcr (qap qaW (pv 0) qae) qae) (qap qcr (qap qcr (pv 1) (pv 1)) qae)) (pv 1)) qae) qae))
   (qad (qai (qap qaW (qap qcr (pv 2) (pv 2)) qae)))),?_⟩
 refine rdg (σ':=[some x0,some x1,none]) rfl ?_
 obtain ⟨c,k,rfl,rfl,hk,q⟩:=h
 walk_at "rd"
 have c0:=ygz c (show (2147483647:Int)≠0 by decide)
 have c1:=yha c (show (0:Int)<2147483647 by decide)
 have n0:=ygz (c%2147483647*48271+(k:Int)*k*69621+k+11) (show (2147483629:Int)≠0 by decide)
 have n1:=yha (c%2147483647*48271+(k:Int)*k*69621+k+11) (show (0:Int)<2147483629 by decide)
 have z0:=ygz ((c%2147483647*48271+(k:Int)*k*69621+k+11)%2147483629*((c%2147483647*48271+(k:Int)*k*69621+k+11)%2147483629)) (show (2147483587:Int)≠0 by decide)
 refine ⟨by decide,.inl ⟨by omega,by omega⟩,.inl ⟨by omega,by omega⟩,.inr ⟨by decide,by decide⟩,by decide,.inl ⟨by omega,by omega⟩,by decide,?_⟩
 unfold qaU at q
 rw [yhb z0] at q
 exact q
abbrev qdv:Stmt:=top 88
def qeE:qam ["_law_one", "_law_count"] ["_law_one"] (qag qdv):=fsc
def qpA:Sp:=sp1 fun x H Q=>∃a:Nat,x = .int a∧a<256∧Q (.int (Fam.pc 8 a:Nat)) H
def qp4:∀b:Nat,b<256→Fam.pc 8 b=b%2+Fam.pc 8 (b/2):=by decide +kernel
def qpP:Fam.pc 8 0=0:=by decide
def qh1 {f:Addr} {fd:FuncData} (F:Fun K "_law_size" "_law_size" qdv f fd) (T:Txt mg)  : qaQ P w K mg base CX0 1 f fd ["_law_one"] qpA:=by
 have sc:=qeE
 refine F.ok qeE (fun vs H Q E h=>by obtain ⟨_,rfl,_⟩:=h;rfl) (fun cdv A outer s H vs Q E hr h=>?_)
 obtain ⟨x0,rfl,h⟩:=h
 refine ⟨_,(qac (qat (i:=1) sc.nd rfl (Or.inl rfl) qae)
   (qac (qoc PassesOwn.never (qal qkg (pv 0) qae (qas _)) (qac (qat (i:=1) sc.nd rfl (Or.inl rfl) (qap qa4 (pv 1) (qap qaW (pv 0) qae)))
   (qad (qat (i:=0) sc.nd rfl (Or.inl rfl) (qap qn6 (pv 0) qae)))))
   (qad (qai (pv 1))))),?_⟩
 refine rdg (σ':=[some x0,none]) rfl ?_
 obtain ⟨a,rfl,ha,q⟩:=h
 walk_at "rd"
 refine qse (fun m σ H'=>∃c:Nat,σ=[some (.int m),some (.int c)]∧H'=H∧c+Fam.pc 8 m=Fam.pc 8 a∧m<256) a ⟨0,rfl,rfl,by omega,ha⟩ ?_
 rintro b σ H' ⟨c,rfl,rfl,e,hb⟩ T hT
 (try walk_at "rd")
 refine qjy (fun h0=>hT _ fun N hN=>?_) fun h0=>?_
 · (try walk_at "rd")
   have:=qp4 b hb
   exact ⟨by decide,⟨by decide,by decide⟩,hN (b/2) _ _ (by omega) ⟨c+b%2,rfl,rfl,by omega,by omega⟩⟩
 · have:b=0:=by omega
   subst this
   rw [qpP] at e
   rw [←e] at q
   exact q
abbrev qcg:Stmt:=top 87
def qdd:qam ["_law_script", "_law_start", "_law_many", "_law_most", "_law_first", "_law_sets", "_law_k", "_law_way", "_law_found", "_law_one"] ["_law_script", "_law_start", "_law_many", "_law_most"] (qag qcg):=fsc
def qj2 (K:W.Frag):Sp:=sp4 fun x y z u H Q=>∃(a:Addr) (ns:List Int) (st m mo:Nat),x = .ref a∧SqL K H a (ns.map V.int)∧ns.length≤63∧y = .int st∧st≤500∧z = .int m∧m≤8∧u = .int mo∧mo≤60 ∧
 ∀(p:Addr) (fs:List Nat) (H':Hp),H p=none→qar H H'→H' p=some (.lst (nV fs))→fs.Pairwise (· < ·)→(∀b∈fs,b<2^m)→fs.length≤70→Q (.ref p) H'
def qky {m:Nat} (hm:m≤8):2^m≤256:=yag (n:=2) (by decide) hm
def dbl (i:Nat):(2:Int)*((2^i:Nat):Int)=((2^(i+1):Nat):Int):=by rw [yal];omega
def qix:∀m:Nat,m≤8→∀s:Nat,s≤8→((List.range (2^m)).filter fun k=>decide (Fam.pc 8 k=s)).length≤70:=by decide +kernel
def qj5 {m:Nat}:(([0,2^m-1]:List Nat).take (2^m)).Pairwise (· < ·)∧∀b∈([0,2^m-1]:List Nat).take (2^m),b<2^m:=by
 have:=yai m
 refine ⟨?_,fun b hb=>?_⟩
 · rcases yah (2^m) 2 with z | z
   · have:2^m=1:=by omega
     rw [this]
     simp
   · rw [yfz (by simpa using z)]
     simp
     omega
 · have:=yhc hb
   simp at this
   omega
def qf0 {f:Addr} {fd:FuncData} (F:Fun K "_law_family" "_law_family" qcg f fd) (T:Txt mg) {f_29:Addr} {fd_29:FuncData} (C_29:Cal P w K mg base "_law_cell" 1 ["_law_script", "_law_k"] (qma K) f_29 fd_29) {f_40:Addr} {fd_40:FuncData} (C_40:Cal P w K mg base "_law_mix" 1 ["_law_cell_here", "_law_k"] qm1 f_40 fd_40) {f_30:Addr} {fd_30:FuncData} (C_30:Cal P w K mg base "_law_size" 1 ["_law_one"] qpA f_30 fd_30):qaQ P w K mg base CX0 2 f fd ["_law_script", "_law_start", "_law_many", "_law_most"] (qj2 K):=by
 have sc:=qdd
 refine F.ok qdd (fun vs H Q E h=>by obtain ⟨_,_,_,_,rfl,_⟩:=h;rfl) (fun cdv A outer s H vs Q E hr h=>?_)
 obtain ⟨x0,x1,x2,x3,rfl,h⟩:=h
 refine ⟨_,(qac (qat (i:=4) sc.nd rfl (Or.inr rfl) (pec C_29 hr (qaa (pv 0) (qaa (pv 1) qab))))
   (qac (qat (i:=5) sc.nd rfl (Or.inl rfl) qae)
   (qac (qaY PassesOwn.never rfl (qaI (by rfl) T.n_range (qaa (pv 2) qab)) (qan (i:=6) sc.nd rfl (Or.inl rfl)) (qad (qat (i:=5) sc.nd rfl (Or.inl rfl) (qap qcr qae (pv 5)))))
   (qac (qat (i:=7) sc.nd rfl (Or.inl rfl) (qap qaW (pec C_40 hr (qaa (pv 4) (qaa qae qab))) qae))
   (qac (qaB (qal (qax (K:=K) rfl hr.units0) (pv 7) qae (qas _)) (qad (qai (qaG (N:=["_law_one", "_law_first", "_law_many"]) (nt:=1) (caps:=[4,2]) qaC rfl (qaI (by rfl) T.n_range (qaa (pv 5) qab)) (fun _ _ _ _ _=>(qan (i:=0) (show List.Nodup (α:=Str) ["_law_one", "_law_first", "_law_many"] from by decide +kernel) rfl (Or.inl rfl))) qaE (fun _ _ _ _ _=>(qfj (qal (qax (K:=K) rfl hr.units0) (pec C_30 hr (qaa (pv 0) qab)) (qap qaW (pec C_40 hr (qaa (pv 1) (qaa qae qab))) (qap qa4 (pv 2) qae)) (qas _)))) (fun _ _ _ _ _=>(pv 0))))) qak)
   (qac (qaB (qal (qax (K:=K) rfl hr.units0) (pv 7) qae (qas _)) (qad (qai (qaA (qaS (K:=K) rfl) (qaH (qaa (qaH qab) (qaa (qaH (qaa qae qab)) (qaa (qaH (qaa (qap qfS (pv 5) qae) qab)) (qaa (qbs (qto (K:=K) rfl) (qaH (qaa qae (qaa (qap qfS (pv 5) qae) qab))) qch (qbK (pv 5))) qab))))) (qap qaW (pec C_40 hr (qaa (pv 4) (qaa qae qab))) qae) (fun _ _=>rfl)))) qak)
   (qac (qat (i:=8) sc.nd rfl (Or.inl rfl) (qaH qab))
   (qac (qaY PassesOwn.never rfl (qaI (by rfl) T.n_range (qaa (qap qaW (pec C_40 hr (qaa (pv 4) (qaa qae qab))) (qap qa4 (pv 3) qae)) qab)) (qan (i:=6) sc.nd rfl (Or.inl rfl)) (qac (qat (i:=9) sc.nd rfl (Or.inl rfl) (qap qaW (pec C_40 hr (qaa (pec C_29 hr (qaa (pv 0) (qaa (qap qa4 (qap qa4 (pv 1) qae) (pv 6)) qab))) (qaa (qap qa4 qae (pv 7)) qab))) (pv 5)))
   (qac (qaB (qal qol (pv 7) qae (qas _)) (qad (qat (i:=9) sc.nd rfl (Or.inl rfl) (qap qfd (pv 9) (qap qaW (pec C_40 hr (qaa (pec C_29 hr (qaa (pv 0) (qaa (qap qa4 (qap qa4 (pv 1) qae) (pv 6)) qab))) (qaa qae qab))) (pv 5))))) qak)
   (qad (qb3 (qbf yhd yhe yhf qce (pv 8) (qaa (pv 9) qab)))))))
   (qad (qai (qav (qbr (P:=P) (w:=w) (K:=K) rfl rfl rfl rfl) (by rfl) T.n_sorted PyProof.Rows.boot_sorted (qaa (qaT (qdP (P:=P) (w:=w) (K:=K) rfl rfl rfl rfl) (by rfl) T.n_set PyProof.Rows.boot_set (qaa (pv 8) qab)) qab)))))))))))),?_⟩
 refine rdg (σ':=[some x0,some x1,some x2,some x3,none,none,none,none,none,none]) rfl ?_
 obtain ⟨a,ns,st,m,mo,rfl,hS,hl,rfl,hst,rfl,hm,rfl,hmo,q⟩:=h
 walk_at "rd"
 refine ⟨_,_,rfl,a,ns,st,rfl,hS,hl,rfl,by omega,fun first=>⟨by omega,by omega,?_⟩⟩
 rw [yfg]
 have pp:=yai m
 have p8:=qky hm
 refine qdb (fun i σ H'=>∃v,σ=[some (.ref a),some (.int st),some (.int m),some (.int mo),some (.int first),some (.int (2^i:Nat)),v,none,none,none]∧H'=H) ⟨none,rfl,rfl⟩ ?_ ?_
 · rintro i σ H' hi ⟨v,rfl,rfl⟩ N hN
   (try walk_at "rd")
   exact ⟨.inl ⟨by decide,by decide⟩,hN _ _ ⟨_,by rw [dbl],rfl⟩⟩
 rintro σ H' ⟨v,rfl,rfl⟩
 (try walk_at "rd")
 refine ⟨_,_,rfl,first,1,rfl,rfl,by omega,?_⟩
 (try walk_at "rd")
 have ew:((qaU first 1:Nat):Int)%8=((qaU first 1%8:Nat):Int):=rfl
 rw [ew]
 have w8:qaU first 1%8<8:=yee _ (by decide)
 generalize qaU first 1%8=way at w8 ⊢
 refine ⟨by decide,qjy (fun h0=>?_) fun h0=>?_⟩
 · refine ⟨by omega,by omega,?_⟩
   rw [yfg]
   refine qdf (fun k=>decide (Fam.pc 8 k=qaU first 2%(m+1))) (fun k => .int (k:Nat)) (by omega) (fun k hk H1 sm R R' r1 r2=>?_) fun H1 p sm hp=>?_
   · (try walk_at "rd")
     refine ⟨_,rfl,k,rfl,by omega,⟨_,_,rfl,first,2,rfl,rfl,by omega,?_⟩⟩
     (try walk_at "rd")
     refine ⟨by omega,qgM (b:=decide (Fam.pc 8 k=qaU first 2%(m+1))) ?_ (fun hc=>r1 hc _ (qar.refl _)) fun hc=>r2 hc _ (qar.refl _)⟩
     rw [decide_eq_true_eq]
     have:((qaU first 2:Nat):Int)%((m:Int)+1)=((qaU first 2%(m+1):Nat):Int):=rfl
     rw [this]
     omega
   · rw [qjZ]
     have hms:qaU first 2%(m+1)≤8:=by have:=yee (qaU first 2) (show 0<m+1 by omega);omega
     refine q p _ _ ?_ (sm.trans (qar.new hp)) qaf (ybj.sublist ybd) (fun b hb=>ybk.mp (ybb.mp hb).1) (qix m hm _ hms)
     exact qau sm hp
 refine qjy (fun h1=>?_) fun h1=>?_
 · have e1:((2^m:Nat):Int)-1=((2^m-1:Nat):Int):=by omega
   rw [e1]
   refine ⟨qaq (by simp),fun p0 hp0=>?_⟩
   generalize g0:upd H' p0 _=G0
   have a0:=qao g0
   have t0:=qah g0 hp0
   refine ⟨qaq (by simp),fun p1 hp1=>?_⟩
   generalize g1:upd G0 p1 _=G1
   have a1:=qao g1
   have n1:=qau t0 hp1
   have t1:=t0.trans (qah g1 hp1)
   have a0:=qah g1 hp1 _ _ a0
   refine ⟨qaq (by simp),fun p2 hp2=>?_⟩
   generalize g2:upd G1 p2 _=G2
   have a2:=qao g2
   have n2:=qau t1 hp2
   have t2:=t1.trans (qah g2 hp2)
   have a0:=qah g2 hp2 _ _ a0
   have a1:=qah g2 hp2 _ _ a1
   refine ⟨qaq (by simp),fun p3 hp3=>?_⟩
   generalize g3:upd G2 p3 _=G3
   have a3:=qao g3
   have t3:=t2.trans (qah g3 hp3)
   have a0:=qah g3 hp3 _ _ a0
   have a1:=qah g3 hp3 _ _ a1
   have a2:=qah g3 hp3 _ _ a2
   refine ⟨p3,_,rfl,SqL.of a3,fun p4 hp4=>?_⟩
   have ec:([V.int 0,V.int ((2^m-1:Nat))]).take (2^m)=nV (([0,2^m-1]:List Nat).take (2^m)):=by
     rw [nV,nI,List.map_take,List.map_take]
     rfl
   rw [qoa,ec]
   generalize g4:upd G3 p4 _=G4
   have a4:=qao g4
   have n4:=qau t3 hp4
   have t4:=t3.trans (qah g4 hp4)
   have a0:=qah g4 hp4 _ _ a0
   have a1:=qah g4 hp4 _ _ a1
   have a2:=qah g4 hp4 _ _ a2
   refine ⟨qaq (by simp),fun p5 hp5=>?_⟩
   generalize g5:upd G4 p5 _=G5
   have a5:=qao g5
   have t5:=t4.trans (qah g5 hp5)
   have a0:=qah g5 hp5 _ _ a0
   have a1:=qah g5 hp5 _ _ a1
   have a2:=qah g5 hp5 _ _ a2
   have a4:=qah g5 hp5 _ _ a4
   refine ⟨_,_,rfl,first,2,rfl,rfl,by omega,?_⟩
   (try walk_at "rd")
   have e4:((qaU first 2:Nat):Int)%4=((qaU first 2%4:Nat):Int):=rfl
   rw [e4]
   have w4:qaU first 2%4<4:=yee _ (by decide)
   generalize qaU first 2%4=j at w4 ⊢
   refine ⟨by decide,?_⟩
   have hj:j=0∨j=1∨j=2∨j=3:=by omega
   rcases hj with rfl | rfl | rfl | rfl
   · exact qaP (SqL.of a5) rfl (q p0 [] _ hp0 t5 a0 List.Pairwise.nil (fun b hb=>by cases hb) (by decide))
   · exact qaP (SqL.of a5) rfl (q p1 [0] _ n1 t5 a1 (by simp) (fun b hb=>by simp at hb;omega) (by decide))
   · exact qaP (SqL.of a5) rfl (q p2 [2^m-1] _ n2 t5 a2 (by simp) (fun b hb=>by simp at hb;omega) (by simp))
   · exact qaP (SqL.of a5) rfl (q p4 _ _ n4 t5 a4 qj5.1 qj5.2 (by rw [yfb];simp;omega))
 refine ⟨qaq (by simp),fun p0 hp0=>?_⟩
 generalize g0:upd H' p0 _=G0
 have a0:=qao g0
 have t0:=qah g0 hp0
 refine ⟨_,_,rfl,first,3,rfl,rfl,by omega,?_⟩
 (try walk_at "rd")
 have e3:((qaU first 3:Nat):Int)%((mo:Int)+1)=((qaU first 3%(mo+1):Nat):Int):=rfl
 rw [e3,yfg]
 have w3:qaU first 3%(mo+1)<mo+1:=yee _ (by omega)
 generalize qaU first 3%(mo+1)=cnt at w3 ⊢
 refine ⟨by omega,by omega,by omega,?_⟩
 have hS0:=t0.seq hS
 refine qdb (fun i σ H2=>∃v1 v2 fs,σ=[some (.ref a),some (.int st),some (.int m),some (.int mo),some (.int first),some (.int (2^m:Nat)),v1,some (.int way),some (.ref p0),v2]∧H2=upd G0 p0 (.lst (nV fs))∧fs.length=i∧∀b∈fs,b<2^m) ⟨_,none,[],rfl,?_,rfl,fun b hb=>by cases hb⟩ ?_ ?_
 · rw [←g0,qfi];rfl
 · rintro i σ H2 hi ⟨v1,v2,fs,rfl,rfl,hlen,hb⟩ N0 hN0
   have t1:qar H' (upd G0 p0 (.lst (nV fs))):=by rw [←g0,qfi];exact qar.new hp0
   have hS1:=t1.seq hS
   (try walk_at "rd")
   refine ⟨_,_,rfl,a,ns,st+1+i,rfl,hS1,hl,by simp,by omega,fun c1=>⟨_,_,rfl,c1,4+way,rfl,by simp,by omega,?_⟩⟩
   (try walk_at "rd")
   have ec:((qaU c1 (4+way):Nat):Int)%((2^m:Nat):Int)=((qaU c1 (4+way)%2^m:Nat):Int):=rfl
   rw [ec]
   have wc:qaU c1 (4+way)%2^m<2^m:=yee _ pp
   generalize qaU c1 (4+way)%2^m=one at wc ⊢
   refine ⟨by omega,?_⟩
   refine qbR (fun σ' H2=>∃b:Nat,b<2^m∧σ'=[some (.ref a),some (.int st),some (.int m),some (.int mo),some (.int first),some (.int (2^m:Nat)),some (.int (i:Nat)),some (.int way),some (.ref p0),some (.int b)]∧H2=upd G0 p0 (.lst (nV fs))) ?_ fun N hN=>?_
   · rintro σ' H2 ⟨b,hb2,rfl,rfl⟩
     (try walk_at "rd")
     refine ⟨qcD (by rw [qa1];omega),hN0 _ _ ⟨_,_,fs++[b],rfl,by rw [qiR],by simp [hlen],fun c hc=>?_⟩⟩
     rcases yaw.mp hc with z | z
     · exact hb c z
     · have:c=b:=by simpa using z
       subst this
       exact hb2
   · (try walk_at "rd")
     refine qjy (fun h5=>?_) fun h5=>hN _ _ ⟨one,wc,rfl,rfl⟩
     refine ⟨_,_,rfl,a,ns,st+1+i,rfl,hS1,hl,by simp,by omega,fun c2=>⟨_,_,rfl,c2,5,rfl,rfl,by omega,?_⟩⟩
     (try walk_at "rd")
     have e2:((qaU c2 5:Nat):Int)%((2^m:Nat):Int)=((qaU c2 5%2^m:Nat):Int):=rfl
     rw [e2,qdt]
     exact ⟨by omega,hN _ _ ⟨_,ybl Nat.and_le_left wc,rfl,rfl⟩⟩
 · rintro σ H2 ⟨v1,v2,fs,rfl,rfl,hlen,hb⟩
   (try walk_at "rd")
   have t1:qar H' (upd G0 p0 (.lst (nV fs))):=by rw [←g0,qfi];exact qar.new hp0
   refine ⟨p0,_,rfl,SqL.of qaf,by simp;omega,fun p6 hp6=>?_⟩
   generalize g6:upd _ p6 _=G6
   have a6:=qao g6
   have t6:=t1.trans (qah g6 hp6)
   have ld:(qd7 (nI fs)).length≤fs.length:=ydc (qcc _) (by simp)
   refine ⟨p6,_,rfl,.inr a6,by omega,fun p7 ms hp7 m1 m2=>?_⟩
   have lsd:(sd fs).length≤fs.length:=by
     have:=m1.length_eq
     rw [qbO m1 m2] at this
     simp at this
     omega
   rw [qbO m1 m2]
   exact q p7 (sd fs) _ (qau t6 hp7) (t6.trans (qar.new hp7)) qaf (qhm fs) (fun b hb2=>hb b (qgi.mp hb2)) (by omega)
abbrev qcU:Stmt:=top 89
def qdT:qam ["_law_cell_here", "_law_count", "_law_letters", "_law_size_here", "_law_words_here", "_law_long", "_law_k", "_law_word"] ["_law_cell_here", "_law_count"] (qag qcU):=fsc
def qkN {n:Nat} {G:Nat→Str} (hn:n≤8) (h:∀k,k<n→Tx.Wd (G k)) (h1:∀i j,i<j→j<n→G i≠G j) (h2:∀k,k<n→G k ≠ "none"):Tx.Wds ((List.range n).map G):=by
 refine ⟨by simpa using hn,?_,fun w hw=>?_,fun hw=>?_⟩
 · unfold List.Nodup
   rw [ybv]
   exact (ybj).imp_of_mem fun _ hb hlt=>h1 _ _ hlt (ybk.mp hb)
 · obtain ⟨k,hk,rfl⟩:=ybt.mp hw
   exact h k (ybk.mp hk)
 · obtain ⟨k,hk,e⟩:=ybt.mp hw
   exact h2 k (ybk.mp hk) e
def qs5 {ys:List Str} (h:∀y∈ys,∃c,y=⟨#[c]⟩∧c≤109):∀c∈Tx.sg (_root_.PySem.Txt.join ("" : Str) ys),c≤109:=fun c hc=>by
 rw [qdR] at hc
 obtain ⟨l,hl,hcl⟩:=ygj.mp hc
 obtain ⟨y,hy,rfl⟩:=ybt.mp hl
 obtain ⟨d,rfl,hd⟩:=h y hy
 rw [show c=d from by simpa [Tx.sg] using hcl]
 exact hd
def qjw {z:Str} (h:∀c∈Tx.sg z,c≤109):z ≠ "none" := fun e=>by
 have:=h 110 (by rw [e];decide +kernel)
 omega
def qpo {n j:Nat} (h:j<n):ixN n (j:Int)=some j:=by
 unfold ixN
 rw [if_pos (by omega),if_pos (by omega),yfg]
def one (x:Nat):Str:=⟨#[x]⟩
def qha (l:List Nat):Tx.sg (_root_.PySem.Txt.join ("" : Str) (l.map one))=l:=by
 rw [qdR,ycv]
 induction l with
 | nil=>rfl
 | cons x l ih =>
   rw [ycf,yfm,ih]
   rfl
def qdU (w:Str):Str:=if w = "none" then "nones" else w
def qop (w:Str):qdU w ≠ "none" := by
 unfold qdU
 split
 · decide +kernel
 · rename_i h
   exact h
def qnT {v w:Str} (hl:v.length=w.length) (h:qdU v=qdU w):v=w:=by
 have l4:("none" : Str).length=4:=by decide +kernel
 have l5:("nones" : Str).length=5:=by decide +kernel
 unfold qdU at h
 by_cases a:v = "none" <;> by_cases b:w = "none"
 · rw [a,b]
 · rw [if_pos a,if_neg b] at h
   rw [←h,a] at hl
   omega
 · rw [if_neg a,if_pos b] at h
   rw [h,b] at hl
   omega
 · rw [if_neg a,if_neg b] at h
   exact h
def qsx {y:Str} (e:¬y=Str.ofString "none"):y++Str.empty=qdU y:=by
 unfold qdU
 rw [if_neg e]
 show (⟨y.cps++#[]⟩:Str)=y
 rw [Array.append_empty]
def qsk {y r:Str} (e:y=Str.ofString "none") (h:∀c∈Tx.sg r,c∈Tx.sg (Str.ofString "s")) (hl:r.length=1):y++r=qdU y:=by
 rw [←Tx.len_sg] at hl
 have e115:Tx.sg (Str.ofString "s")=[115]:=by decide +kernel
 have es:Tx.sg r=[115]:=by
   match hh:Tx.sg r,hl with
   | [x],_ =>
     have:=h x (by rw [hh];exact ybe)
     rw [e115] at this
     rw [yei.mp this]
 have er:r=Str.ofString "s" := by
   have:=es.trans e115.symm
   cases r
   exact congrArg Str.mk (Array.toList_inj.mp this)
 rw [er,e]
 unfold qdU
 rw [if_pos rfl]
 decide +kernel
def wdN (b:List Nat) (u x k:Nat):Str:=_root_.PySem.Txt.join ("" : Str) ((b.set u (97+(x+3*k)%26)).map one)
def qe8 (b:List Nat) (u x k:Nat):(wdN b u x k).length=b.length:=by
 rw [←Tx.len_sg,wdN,qha,yfj]
def qrn {n u x:Nat} {b:List Nat} (hn:n≤7) (h1:1≤b.length) (h8:b.length≤8) (hl:∀y∈b,97≤y∧y≤122) (hu:u<b.length):Tx.Wds ((List.range n).map fun k=>qdU (wdN b u x k)):=by
 refine qkN (by omega) (fun k hk=>?_) (fun i j hij hj e=>?_) fun k _=>qop _
 · unfold qdU
   split
   · exact ⟨by decide +kernel,by decide +kernel,by decide +kernel⟩
   · refine ⟨by rw [qe8];exact h1,by rw [qe8];exact h8,fun c hc=>?_⟩
     rw [wdN,qha] at hc
     rcases List.mem_or_eq_of_mem_set hc with h | h
     · exact hl c h
     · omega
 · have e:=congrArg Tx.sg (qnT (by rw [qe8,qe8]) e)
   rw [wdN,wdN,qha,qha] at e
   have e:=congrArg (fun l=>l[u]?) e
   simp only [yeq hu] at e
   have e:=Option.some.inj e
   omega
def qhQ (K:W.Frag):Sp:=sp2 fun x y H Q=>∃(c:Int) (n:Nat),x = .int c∧y = .int (n:Nat)∧n≤7∧∀(p:Addr) (ws:List Str) (H':Hp),H p=none→qar H H'→H' p=some (.lst (sV ws))→Tx.Wds ws→ws.length=n→Q (.ref p) H'
def qgT {f:Addr} {fd:FuncData} (F:Fun K "_law_words" "_law_words" qcU f fd) (T:Txt mg) {f_40:Addr} {fd_40:FuncData} (C_40:Cal P w K mg base "_law_mix" 1 ["_law_cell_here", "_law_k"] qm1 f_40 fd_40):qaQ P w K mg base CX0 2 f fd ["_law_cell_here", "_law_count"] (qhQ K):=by
 have sc:=qdT
 refine F.ok qdT (fun vs H Q E h=>by obtain ⟨_,_,rfl,_⟩:=h;rfl) (fun cdv A outer s H vs Q E hr h=>?_)
 obtain ⟨x0,x1,rfl,h⟩:=h
 refine ⟨_,(qac (qat (i:=2) sc.nd rfl (Or.inr rfl) qaj)
   (qac (qat (i:=3) sc.nd rfl (Or.inl rfl) (qap qa4 qae (qap qaW (pec C_40 hr (qaa (pv 0) (qaa qae qab))) qae)))
   (qac (qat (i:=4) sc.nd rfl (Or.inl rfl) (qaH qab))
   (qac (qat (i:=5) sc.nd rfl (Or.inr rfl) (qbf yhg yhh yhi (qaM (K:=K) rfl) qaj (qaa (qaG (N:=["_law_j", "_law_letters", "_law_cell_here"]) (nt:=1) (caps:=[2,0]) qaC rfl (qaI (by rfl) T.n_range (qaa qae qab)) (fun _ _ _ _ _=>(qan (i:=0) (show List.Nodup (α:=Str) ["_law_j", "_law_letters", "_law_cell_here"] from by decide +kernel) rfl (Or.inl rfl))) qaE (fun _ _ _ _ _=>qaF) (fun _ _ _ _ _=>(qdr (pv 1) (qap qaW (pec C_40 hr (qaa (pv 2) (qaa (qap qa4 qae (pv 0)) qab))) qae) (fun _ _=>rfl)))) qab)))
   (qac (qaB (qal (qax (K:=K) rfl hr.units0) (qap qaW (pec C_40 hr (qaa (pv 0) (qaa qae qab))) qae) qae (qas _)) (qad (qai (qaG (N:=["_law_k", "_law_long"]) (nt:=1) (caps:=[5]) qaC rfl (qaI (by rfl) T.n_range (qaa (pv 1) qab)) (fun _ _ _ _ _=>(qan (i:=0) (show List.Nodup (α:=Str) ["_law_k", "_law_long"] from by decide +kernel) rfl (Or.inl rfl))) qaE (fun _ _ _ _ _=>qaF) (fun _ _ _ _ _=>(qbs qpt (pv 1) qch (qbK (qap qa4 (pv 0) qae))))))) qak)
   (qac (qaB (qal (qax (K:=K) rfl hr.units0) (qap qaW (pec C_40 hr (qaa (pv 0) (qaa qae qab))) qae) qae (qas _)) (qad (qai (qaG (N:=["_law_k", "_law_long"]) (nt:=1) (caps:=[5]) qaC rfl (qaI (by rfl) T.n_range (qaa (pv 1) qab)) (fun _ _ _ _ _=>(qan (i:=0) (show List.Nodup (α:=Str) ["_law_k", "_law_long"] from by decide +kernel) rfl (Or.inl rfl))) qaE (fun _ _ _ _ _=>qaF) (fun _ _ _ _ _=>(qbs qpt (pv 1) (qbK (qap qfS qae (pv 0))) qch))))) qak)
   (qac (qaY PassesOwn.never rfl (qaI (by rfl) T.n_range (qaa (pv 1) qab)) (qan (i:=6) sc.nd rfl (Or.inl rfl)) (qac (qcN (i:=7) sc.nd rfl rfl (by rfl) (N:=["_law_j", "_law_letters", "_law_cell_here"]) (nt:=1) (caps:=[2,0]) qaC rfl (qaI (by rfl) T.n_range (qaa (pv 3) qab)) (fun _ _ _ _ _=>(qan (i:=0) (show List.Nodup (α:=Str) ["_law_j", "_law_letters", "_law_cell_here"] from by decide +kernel) rfl (Or.inl rfl))) qaE (fun _ _ _ _ _=>qaF) (fun _ _ _ _ _=>(qdr (pv 1) (qap qaW (pec C_40 hr (qaa (pv 2) (qaa (qap qa4 qae (pv 0)) qab))) qae) (fun _ _=>rfl))))
   (qac (qkM (qdr (pv 2) (qap qaW (qap qa4 (pec C_40 hr (qaa (pv 0) (qaa qae qab))) (qap qcr qae (pv 6))) qae) (fun _ _=>rfl)) (qpi (pv 7) (qap qaW (pec C_40 hr (qaa (pv 0) (qaa qae qab))) (pv 3)) qjt))
   (qad (qb3 (qbf yhd yhe yhf qce (pv 4) (qaa (qbf yhg yhh yhi (qaM (K:=K) rfl) qaj (qaa (pv 7) qab)) qab)))))))
   (qad (qai (qaG (N:=["_law_word"]) (nt:=1) (caps:=[]) qaC rfl (qaJ (pv 4)) (fun _ _ _ _ _=>(qan (i:=0) (show List.Nodup (α:=Str) ["_law_word"] from by decide +kernel) rfl (Or.inl rfl))) qaE (fun _ _ _ _ _=>qaF) (fun _ _ _ _ _=>(qap qaK (pv 0) (qap qqr qaj (qaT qhX (by rfl) T.n_int PyProof.Rows.boot_int (qaa (qfA (qax (K:=K) rfl hr.units0) (pv 0) qaj (qas _)) qab))))))))))))))),?_⟩
 refine rdg (σ':=[some x0,some x1,none,none,none,none,none,none]) rfl ?_
 obtain ⟨c,n,rfl,rfl,hn,q⟩:=h
 walk_at "rd"
 have hnn:(n:Int)<2^62:=by omega
 have hn0:-2^62≤(n:Int):=by omega
 have b13:∀k,qaU c k%13<13:=fun k=>yee _ (by decide)
 have b26:∀k,qaU c k%26<26:=fun k=>yee _ (by decide)
 refine ⟨_,_,rfl,c,40,rfl,rfl,by decide,?_⟩
 (try walk_at "rd")
 refine ⟨by decide,qaq (by simp),fun p hp=>⟨rfl,by decide,by decide,?_⟩⟩
 generalize g1:upd H p _=G1
 have a1:=qao g1
 have t1:=qah g1 hp
 rw [show Int.toNat 8=8 from rfl]
 refine qdf (fun _=>true) (fun k => .str ⟨#[97+qaU c (41+k)%13]⟩) (by decide) (fun k hk H1 s1 R R' r1 r2=>?_) fun H1 p1 s1 hp1=>?_
 · (try walk_at "rd")
   refine ⟨_,_,rfl,c,41+k,rfl,by simp,by omega,?_⟩
   (try walk_at "rd")
   have e:=b13 (41+k)
   refine ⟨by decide,by omega,by omega,by rw [show (Str.ofString "abcdefghijklmnopqrstuvwxyz").length=26 from qjc];omega,_,qm5 _ (by omega),?_⟩
   exact r1 rfl _ (qar.refl _)
 rw [ygf.mpr fun _ _=>rfl,qbu]
 generalize g2:upd H1 p1 _=G2
 have a2:=qao g2
 have t2:=(t1.trans s1).trans (qah g2 hp1)
 have a1:=qah g2 hp1 _ _ (s1 _ _ a1)
 refine ⟨_,p1,_,rfl,rfl,SqL.of a2,qaD (M:=1) (N:=8) (fun y hy=>?_) (by simp) (by decide +kernel) (by decide),?_⟩
 · obtain ⟨k,_,rfl⟩:=ybt.mp hy
   exact yba 1
 obtain ⟨hz8,hzl⟩:=qrl (ys:=(List.range 8).map fun k:Nat=>(⟨#[97+qaU c (41+k)%13]⟩:Str)) fun y hy=>by
   obtain ⟨k,_,rfl⟩:=ybt.mp hy
   have:=b13 (41+k)
   exact ⟨_,rfl,by omega,by omega⟩
 have hz13:=qs5 (ys:=(List.range 8).map fun k:Nat=>(⟨#[97+qaU c (41+k)%13]⟩:Str)) fun y hy=>by
   obtain ⟨k,_,rfl⟩:=ybt.mp hy
   have:=b13 (41+k)
   exact ⟨_,rfl,by omega⟩
 rw [ycd,ygm] at hz8
 generalize _root_.PySem.Txt.join (Str.ofString "") ((List.range 8).map fun k:Nat=>(⟨#[97+qaU c (41+k)%13]⟩:Str))=z at hz8 hzl hz13 ⊢
 have zb:z.length≤100000:=by omega
 refine ⟨_,_,rfl,c,52,rfl,rfl,by decide,?_⟩
 (try walk_at "rd")
 refine ⟨by decide,qjy (fun h1=>⟨hn0,hnn,?_⟩) fun h1=>⟨_,_,rfl,c,52,rfl,rfl,by decide,?_⟩⟩
 · rw [yfg]
   refine qdf (fun _=>true) (fun k => .str (_root_.PySem.Txt.slice z none (some ((k+1:Nat):Int)))) (by omega) (fun k hk H2 s2 R R' r1 r2=>?_) fun H2 p2 s2 hp2=>?_
   · (try walk_at "rd")
     exact ⟨_,rfl,zb,r1 rfl _ (qar.refl _)⟩
   rw [ygf.mpr fun _ _=>rfl,qbu]
   have ln:∀k,k<n→(_root_.PySem.Txt.slice z none (some ((k+1:Nat):Int))).length=k+1:=fun k hk=>qrt (by omega)
   refine q p2 _ _ (qau (t2.trans s2) hp2) ((t2.trans s2).trans (qar.new hp2)) qaf (qkN (by omega) (fun k hk=>?_) (fun i j hij hj e=>?_) fun k hk=>qjw fun c hc=>hz13 c (qfa c hc)) (by simp)
   · have:=ln k hk
     exact ⟨by omega,by omega,qjG hzl⟩
   · have z1:=ln i (by omega)
     have z2:=ln j hj
     rw [e] at z1
     omega
 (try walk_at "rd")
 refine ⟨by decide,qjy (fun h2=>⟨hn0,hnn,?_⟩) fun h2=>⟨hn0,hnn,?_⟩⟩
 · rw [yfg]
   refine qdf (fun _=>true) (fun k => .str (_root_.PySem.Txt.slice z (some ((7-k:Nat):Int)) none)) (by omega) (fun k hk H2 s2 R R' r1 r2=>?_) fun H2 p2 s2 hp2=>?_
   · (try walk_at "rd")
     rw [show (7:Int)-(k:Nat)=((7-k:Nat):Int) by omega]
     exact ⟨_,rfl,zb,r1 rfl _ (qar.refl _)⟩
   rw [ygf.mpr fun _ _=>rfl,qbu]
   have ln:∀k,k<n→(_root_.PySem.Txt.slice z (some ((7-k:Nat):Int)) none).length=k+1:=fun k hk=>by
     have:=qoq (z:=z) (i:=7-k) (by omega)
     omega
   refine q p2 _ _ (qau (t2.trans s2) hp2) ((t2.trans s2).trans (qar.new hp2)) qaf (qkN (by omega) (fun k hk=>?_) (fun i j hij hj e=>?_) fun k hk=>qjw fun c hc=>hz13 c (qfa c hc)) (by simp)
   · have:=ln k hk
     exact ⟨by omega,by omega,qjG hzl⟩
   · have z1:=ln i (by omega)
     have z2:=ln j hj
     rw [e] at z1
     omega
 rw [yfg]
 have hs:=yee (qaU c 40) (show 0<8 by decide)
 have es:(1:Int)+((qaU c 40:Nat):Int)%8=((1+qaU c 40%8:Nat):Int):=by omega
 rw [es]
 have hS1:1≤1+qaU c 40%8:=by omega
 have hS8:1+qaU c 40%8≤8:=by omega
 generalize 1+qaU c 40%8=S at hS1 hS8 ⊢
 have ub:=yee (qaU c 50) (show 0<S by omega)
 refine qdb (fun i σ H'=>∃(v6 v7:Option V),σ=[some (.int c),some (.int (n:Nat)),some (.str (Str.ofString "abcdefghijklmnopqrstuvwxyz")),some (.int (S:Nat)),some (.ref p),some (.str z),v6,v7]∧qar H H'∧H' p=some (.lst (sV ((List.range i).map (wdN ((List.range S).map fun j=>97+qaU c (41+j)%26) (qaU c 50%S) (qaU c 51)))))) ⟨none,none,rfl,t2,a1⟩ ?_ ?_
 · rintro i σ H3 hi ⟨v6,v7,rfl,s3,a3⟩ N hN
   (try walk_at "rd")
   refine ⟨by omega,by omega,?_⟩
   rw [yfg]
   refine qdf (fun _=>true) (fun j => .str (one (97+qaU c (41+j)%26))) (by omega) (fun j hj H4 s4 R R' r1 r2=>?_) fun H4 p4 s4 hp4=>?_
   · (try walk_at "rd")
     refine ⟨_,_,rfl,c,41+j,rfl,by simp,by omega,?_⟩
     (try walk_at "rd")
     have e:=b26 (41+j)
     refine ⟨by decide,by omega,by omega,by rw [show (Str.ofString "abcdefghijklmnopqrstuvwxyz").length=26 from qjc];omega,_,qm5 _ (by omega),?_⟩
     exact r1 rfl _ (qar.refl _)
   rw [ygf.mpr fun _ _=>rfl,qbu]
   generalize g4:upd H4 p4 _=G4
   have a4:=qao g4
   have t4:=(s3.trans s4).trans (qah g4 hp4)
   have np:p≠p4:=qaZ (s4 _ _ a3) hp4
   have a3:=qah g4 hp4 _ _ (s4 _ _ a3)
   have np4:H p4=none:=qau (s3.trans s4) hp4
   have ex:(((qaU c 51:Nat):Int)+3*(i:Nat))%26=(((qaU c 51+3*i)%26:Nat):Int):=by omega
   have x26:=yee (qaU c 51+3*i) (show 0<26 by decide)
   refine ⟨_,_,rfl,c,51,rfl,rfl,by decide,.inl ⟨by decide,by decide⟩,?_⟩
   (try walk_at "rd")
   rw [ex]
   refine ⟨by decide,by omega,by omega,by rw [show (Str.ofString "abcdefghijklmnopqrstuvwxyz").length=26 from qjc];omega,_,qm5 _ (by omega),?_⟩
   refine ⟨_,_,rfl,c,50,rfl,rfl,by decide,?_⟩
   (try walk_at "rd")
   refine ⟨by omega,p4,_,_,qaU c 50%S,rfl,rfl,a4,qpo (by rw [qaR,ycd,ygm];exact ub),?_⟩
   rw [yfg]
   have es:(sV ((List.range S).map fun j=>one (97+qaU c (41+j)%26))).set (qaU c 50%S) (.str ⟨#[97+(qaU c 51+3*i)%26]⟩)=sV ((((List.range S).map fun j=>97+qaU c (41+j)%26).set (qaU c 50%S) (97+(qaU c 51+3*i)%26)).map one):=by
     unfold sV
     simp only [yhj,ycv]
     rfl
   rw [es]
   generalize g5:upd G4 p4 _=G5
   have a5:G5 p4=some (.lst (sV ((((List.range S).map fun j=>97+qaU c (41+j)%26).set (qaU c 50%S) (97+(qaU c 51+3*i)%26)).map one))):=by rw [←g5];exact qaf
   have b3:G5 p=some (.lst (sV ((List.range i).map (wdN ((List.range S).map fun j=>97+qaU c (41+j)%26) (qaU c 50%S) (qaU c 51))))):=by rw [←g5,qay np];exact a3
   have t5:qar H G5:=by rw [←g5];exact t4.upd np4
   refine ⟨qcY b3,rfl,_,p4,_,rfl,rfl,SqL.of a5,qaD (M:=1) (N:=8) (fun y hy=>?_) (by rw [ycd,yfj,ycd,ygm];exact hS8) (by decide +kernel) (by decide),?_⟩
   · obtain ⟨k,_,rfl⟩:=ybt.mp hy
     exact yba 1
   refine ⟨p,_,_,rfl,rfl,b3,qcD (by rw [qaR,ycd,ygm];omega),hN _ _ ⟨_,_,rfl,t5.upd hp,?_⟩⟩
   rw [qaf,yds,ycu]
   show _=some (HO.lst (List.map V.str (_++_)))
   rw [ycu]
   rfl
 · rintro σ H3 ⟨v6,v7,rfl,s3,a3⟩
   (try walk_at "rd")
   refine ⟨⟨_,SqL.of a3⟩,qmv (fs:=sV ((List.range n).map (wdN ((List.range S).map fun j=>97+qaU c (41+j)%26) (qaU c 50%S) (qaU c 51)))) (fun _=>true) (fun v=>match v with | .str y => .str (qdU y) | v=>v) (SqL.of a3) (by rw [qaR,ycd,ygm];omega) (fun x hx H4 s4 R R' r1 r2=>?_) fun H4 p4 s4 hp4=>?_⟩
   · obtain ⟨y,hy,rfl⟩:=ybt.mp hx
     obtain ⟨k,hk,rfl⟩:=ybt.mp hy
     have ly:=qe8 ((List.range S).map fun j=>97+qaU c (41+j)%26) (qaU c 50%S) (qaU c 51) k
     rw [ycd,ygm] at ly
     generalize wdN ((List.range S).map fun j=>97+qaU c (41+j)%26) (qaU c 50%S) (qaU c 51) k=y at ly r1 ⊢
     (try walk_at "rd")
     have zz:100000≤sizeLine:=by decide
     by_cases e:y=Str.ofString "none"
     · rw [if_pos e]
       refine .inr ⟨_,1,rfl,rfl,by decide,by decide,by decide +kernel,fun r hr hl=>?_⟩
       rw [show (Str.ofString "s").length=1 by decide +kernel] at hl
       refine ⟨_,rfl,by omega,?_⟩
       rw [qsk e hr (by omega)]
       exact r1 rfl _ (qar.refl _)
     · rw [if_neg e]
       refine .inl ⟨_,rfl,rfl,_,rfl,by rw [show Str.empty.length=0 from rfl];omega,?_⟩
       rw [qsx e]
       exact r1 rfl _ (qar.refl _)
   · rw [ygf.mpr fun _ _=>rfl]
     rw [show (sV ((List.range n).map (wdN ((List.range S).map fun j=>97+qaU c (41+j)%26) (qaU c 50%S) (qaU c 51)))).map (fun v=>match v with | .str y => .str (qdU y) | v=>v)=sV ((List.range n).map fun k=>qdU (wdN ((List.range S).map fun j=>97+qaU c (41+j)%26) (qaU c 50%S) (qaU c 51) k)) from by unfold sV;rw [ycv,ycv,ycv];rfl]
     refine q p4 _ _ (qau (s3.trans s4) hp4) ((s3.trans s4).trans (qar.new hp4)) qaf (qrn hn (by simpa using hS1) (by simpa using hS8) (fun y hy=>?_) (by simpa using ub)) (by simp)
     obtain ⟨j,_,rfl⟩:=ybt.mp hy
     have:=b26 (41+j)
     omega
abbrev qbP:Stmt:=top 90
def qcp:qam ["_law_words_here", "_law_one", "_law_found"] ["_law_words_here", "_law_one"] (qag qbP):=fsc
def qfH (K:W.Frag):Sp:=sp2 fun x y H Q=>∃(p:Addr) (ws:List Str) (a:Nat),x = .ref p∧H p=some (.lst (sV ws))∧Tx.Wds ws∧y = .int (a:Nat)∧a<2^ws.length∧∀H',qar H H'→Q (.str (Tx.sT ws a)) H'
def qeP {f:Addr} {fd:FuncData} (F:Fun K "_law_set_text" "_law_set_text" qbP f fd) (T:Txt mg)  : qaQ P w K mg base CX0 1 f fd ["_law_words_here", "_law_one"] (qfH K):=by
 have sc:=qcp
 refine F.ok qcp (fun vs H Q E h=>by obtain ⟨_,_,rfl,_⟩:=h;rfl) (fun cdv A outer s H vs Q E hr h=>?_)
 obtain ⟨x0,x1,rfl,h⟩:=h
 refine ⟨_,(qac (qcN (i:=2) sc.nd rfl rfl (by rfl) (N:=["_law_k", "_law_words_here", "_law_one"]) (nt:=1) (caps:=[0,1]) qaC rfl (qaI (by rfl) T.n_range (qaa (qav (qaO (K:=K) rfl) (by rfl) T.n_len PySem.boot_len (qaa (pv 0) qab)) qab)) (fun _ _ _ _ _=>(qan (i:=0) (show List.Nodup (α:=Str) ["_law_k", "_law_words_here", "_law_one"] from by decide +kernel) rfl (Or.inl rfl))) qaE (fun _ _ _ _ _=>(qfj (qal (qax (K:=K) rfl hr.units0) (qap qfd (qap qpk (pv 2) (pv 0)) qae) qae (qas _)))) (fun _ _ _ _ _=>(qaA (qaS (K:=K) rfl) (pv 1) (pv 0) (fun _ _=>rfl))))
   (qac (qaB (qal (qax (K:=K) rfl hr.units0) (pv 2) (qaH qab) (qas _)) (qad (qai qaj)) qak)
   (qad (qai (qbf yhg yhh yhi (qaM (K:=K) rfl) qaj (qaa (pv 2) qab)))))),?_⟩
 refine rdg (σ':=[some x0,some x1,none]) rfl ?_
 obtain ⟨p,ws,a,rfl,f1,hw,rfl,ha,q⟩:=h
 walk_at "rd"
 refine ⟨_,.inl (SqL.of f1),?_⟩
 have h8:=hw.few
 rw [qaR]
 refine ⟨by omega,by omega,?_⟩
 rw [yfg]
 refine qdf (fun k=>a.testBit k) (fun k => .str (ws.getD k Str.empty)) (by omega) (fun k hk H3 s3 R R' r1 r2=>?_) fun H3 p3 s3 hp3=>?_
 · (try walk_at "rd")
   refine ⟨by omega,?_⟩
   cases b:a.testBit k with
   | false =>
     rw [if_neg (by rw [qjb,b];decide)]
     exact r2 b _ (qar.refl _)
   | true =>
     rw [if_pos (by rw [qjb,b])]
     have ek:ws[k]?=some (ws.getD k Str.empty):=by rw [yci,ycj hk];rfl
     exact qaP (SqL.of (s3 _ _ f1)) (qb8 ek) (r1 b _ (qar.refl _))
 rw [show ((List.range ws.length).filter fun k=>a.testBit k).map (fun k=>V.str (ws.getD k Str.empty))=sV (Tx.wds ws a) from by unfold Tx.wds;rw [←qsF hw.few ha];exact qbu _ _]
 have lw:(Tx.wds ws a).length≤8:=by
   unfold Tx.wds
   rw [ycd]
   exact ydc (ygc _ _) (by simp)
 have ly:∀y∈Tx.wds ws a,y.length≤8:=fun y hy=>(hw.wd y (Tx.wds_mem hw ha hy)).2.1
 generalize g3:upd H3 p3 _=G3
 have a3:=qao g3
 have s3:=s3.trans (qah g3 hp3)
 (try walk_at "rd")
 refine ⟨qaq (by simp),fun p4 hp4=>?_⟩
 generalize g4:upd G3 p4 _=G4
 have a4:=qao g4
 have t4:=qah g4 hp4
 have a3:=t4 _ _ a3
 have s4:=s3.trans t4
 refine qkf (SqL.of a3) (SqL.of a4) (qc9 _) rfl ?_
 by_cases h0:a=0
 · have e:Tx.wds ws a=[]:=by rw [h0];rfl
   rw [show Tx.sT ws a = "-" from if_pos h0] at q
   rw [e]
   exact ⟨true,rfl,qez (q _ s4)⟩
 · have ne:=Tx.wds_ne hw ha h0
   rw [show Tx.sT ws a=_root_.PySem.Txt.join "+" (Tx.wds ws a) from if_neg h0] at q
   have e:qgb (sV (Tx.wds ws a)) []=false:=by
     rw [show ([]:List V)=sV [] from rfl,qhE]
     exact decide_eq_false ne
   rw [e]
   exact ⟨false,rfl,qc4 ⟨rfl,_,p3,_,rfl,rfl,SqL.of a3,qaD (M:=8) (N:=8) ly lw (by rw [Tx.lit_plus];decide) (by decide),q _ s4⟩⟩
abbrev qdn:Stmt:=top 91
def qex:qam ["_law_words_here", "_law_family_here"] ["_law_words_here", "_law_family_here"] (qag qdn):=fsc
def ql0 (K:W.Frag):Sp:=sp2 fun x y H Q=>∃(p p2:Addr) (ws:List Str) (fs:List Nat),x = .ref p∧H p=some (.lst (sV ws))∧Tx.Wds ws∧y = .ref p2∧H p2=some (.lst (nV fs))∧(∀b∈fs,b<2^ws.length)∧fs.length≤70∧∀H',qar H H'→Q (.str (Tx.fT ws fs)) H'
def qhP {f:Addr} {fd:FuncData} (F:Fun K "_law_text" "_law_text" qdn f fd) (T:Txt mg) {f_06:Addr} {fd_06:FuncData} (C_06:Cal P w K mg base "_law_set_text" 1 ["_law_words_here", "_law_one"] (qfH K) f_06 fd_06):qaQ P w K mg base CX0 2 f fd ["_law_words_here", "_law_family_here"] (ql0 K):=by
 have sc:=qex
 refine F.ok qex (fun vs H Q E h=>by obtain ⟨_,_,rfl,_⟩:=h;rfl) (fun cdv A outer s H vs Q E hr h=>?_)
 obtain ⟨x0,x1,rfl,h⟩:=h
 refine ⟨_,(qac (qaB (qal (qax (K:=K) rfl hr.units0) (pv 1) (qaH qab) (qas _)) (qad (qai qaj)) qak)
   (qad (qai (qbf yhg yhh yhi (qaM (K:=K) rfl) qaj (qaa (qaG (N:=["_law_one", "_law_words_here"]) (nt:=1) (caps:=[0]) qaC rfl (qaJ (pv 1)) (fun _ _ _ _ _=>(qan (i:=0) (show List.Nodup (α:=Str) ["_law_one", "_law_words_here"] from by decide +kernel) rfl (Or.inl rfl))) qaE (fun _ _ _ _ _=>qaF) (fun _ _ _ _ _=>(pec C_06 hr (qaa (pv 1) (qaa (pv 0) qab))))) qab))))),?_⟩
 refine rdg (σ':=[some x0,some x1]) rfl ?_
 obtain ⟨p,p2,ws,fs,rfl,f1,hw,rfl,f2,hb,hl,q⟩:=h
 walk_at "rd"
 refine ⟨qaq (by simp),fun p4 hp4=>?_⟩
 generalize g4:upd H p4 _=G4
 have a4:=qao g4
 have t4:=qah g4 hp4
 have f2:=t4 _ _ f2
 have f1:=t4 _ _ f1
 refine qkf (SqL.of f2) (SqL.of a4) (qmi _) rfl ?_
 by_cases h0:fs=[]
 · rw [show Tx.fT ws fs = "none" from if_pos h0] at q
   subst h0
   exact ⟨true,rfl,qez (q _ t4)⟩
 rw [show Tx.fT ws fs=_root_.PySem.Txt.join " " (fs.map (Tx.sT ws)) from if_neg h0] at q
 have e:qgb (nV fs) []=false:=by
   rw [show ([]:List V)=nV [] from rfl,qo4]
   exact decide_eq_false h0
 rw [e]
 refine ⟨false,rfl,qc4 ⟨rfl,⟨_,SqL.of f2⟩,qbQ (fs:=fs) (fun _=>true) (fun b => .str (Tx.sT ws b)) (SqL.of f2) (by omega) (fun b hb' H2 s2 R R' r1 r2=>?_) fun H2 p3 s2 hp3=>?_⟩⟩
 · (try walk_at "rd")
   exact ⟨_,_,rfl,p,ws,b,rfl,s2 _ _ f1,hw,rfl,hb b hb',fun H3 s3=>r1 rfl _ s3⟩
 · rw [ygf.mpr fun _ _=>rfl,qbu]
   refine ⟨_,p3,fs.map (Tx.sT ws),rfl,rfl,SqL.of qaf,qaD (M:=72) (N:=70) (fun y hy=>?_) (by rw [ycd];exact hl) (by rw [Tx.lit_space];decide) (by decide),q _ ((t4.trans s2).trans (qar.new hp3))⟩
   obtain ⟨b,hb',rfl⟩:=ybt.mp hy
   exact Tx.sT_len hw (hb b hb')
abbrev qhg:Stmt:=top 10
def qif:qam ["many", "thing"] ["many", "thing"] (qag qhg):=fsc
def qr4:Sp:=sp2 fun m x H Q=>(∃(k:Nat) (i:Int),m = .int k∧x = .int i∧k≤8∧Q (.bl (decide (0≤i)&&decide (i<(2^k:Nat)))) H)∨∃t,qnb H x=some t∧t ≠ "int" ∧ Q (.bl false) H
def qlv {f:Addr} {fd:FuncData} (F:Fun K "is_set" "is_set" qhg f fd) (T:Txt mg) {f_39:Addr} {fd_39:FuncData} (C_39:Cal P w K mg base "is_whole" 1 ["thing"] qlM f_39 fd_39):qaQ P w K mg base CX0 2 f fd ["many", "thing"] qr4:=by
 have sc:=qif
 refine F.ok qif (fun vs H Q E h=>by obtain ⟨_,_,rfl,_⟩:=h;rfl) (fun cdv A outer s H vs Q E hr h=>?_)
 obtain ⟨x0,x1,rfl,h⟩:=h
 refine ⟨_,(qad (qai (qjz (pec C_39 hr (qaa (pv 1) qab)) (qjE (qhi qog qol qae (pv 1) (qap qbE qae (pv 0))))))),?_⟩
 refine rdg (σ':=[some x0,some x1]) rfl ?_
 walk_at "rd"
 rcases h with ⟨k,i,rfl,rfl,hk8,q⟩ | ⟨t,hk,hne,q⟩
 · refine ⟨_,rfl, "int",rfl,true,rfl,qez ?_⟩
   walk_at "rd"
   split
   · rename_i h0
     rw [decide_eq_true h0,yfw] at q
     refine ⟨qa9 (by omega) (by omega) (by decide) (by decide),?_⟩
     rw [qbn]
     exact q
   · rename_i h0
     rw [decide_eq_false h0,yeu] at q
     exact q
 · exact ⟨_,rfl,t,hk,false,by rw [qon hne],qc4 q⟩
abbrev qdq:Stmt:=top 18
def qeD:qam ["many", "thing", "before", "one"] ["many", "thing"] (qag qdq):=fsc
/-- how far the items are sets that rise,from b on -/
def qnX (m:Nat):Int→List V→Bool
 | _,[]=>true
 | b,x::r=>match x with | .int i=>decide (0≤i)&&decide (i<(2^m:Nat))&&decide (b<i)&&qnX m i r | _=>false
/-- the items are of kinds that are told -/
def Kd (H:Hp) (xs:List V):Prop:=∀x∈xs,∃t,qnb H x=some t
def qsv {H:Hp} {x:V} {t:String} (h:qnb H x=some t) (hn:∀i,x ≠ .int i):t ≠ "int" := by
 intro e
 subst e
 cases x with
 | int i=>exact hn i rfl
 | non=>exact absurd (Option.some.inj h) (by decide)
 | bl b=>exact absurd (Option.some.inj h) (by decide)
 | str z=>exact absurd (Option.some.inj h) (by decide)
 | byt z=>cases h
 | flt z=>cases h
 | ty z=>cases h
 | ref a =>
   unfold qnb at h
   dsimp only at h
   split at h<;>first | exact absurd (Option.some.inj h) (by decide) | cases h
def qqd {m:Nat} {b:Int} {x:V} {r:List V} (hn:∀i,x ≠ .int i):qnX m b (x::r)=false:=by
 cases x with
 | int i=>exact absurd rfl (hn i)
 | _=>rfl
def qoN {t:String} (h:t ≠ "list"):qnj t "list" = false:=by
 unfold qnj
 rw [show (t == "list")=false from beq_eq_false_iff_ne.mpr h]
 cases (t == "bool")<;>rfl
def qlH (K:W.Frag):Sp:=sp2 fun x y H Q=>∃m:Nat,x = .int m∧m≤8∧((∃(p:Addr) (xs:List V),y = .ref p∧H p=some (.lst xs)∧xs.length≤1000∧Kd H xs∧Q (.bl (decide (xs.length≤70)&&qnX m (-1) xs)) H)∨∃t,qnb H y=some t∧t ≠ "list" ∧ Q (.bl false) H)
def qhS {f:Addr} {fd:FuncData} (F:Fun K "is_family" "is_family" qdq f fd) (T:Txt mg) {f_53:Addr} {fd_53:FuncData} (C_53:Cal P w K mg base "is_set" 2 ["many", "thing"] qr4 f_53 fd_53):qaQ P w K mg base CX0 3 f fd ["many", "thing"] (qlH K):=by
 have sc:=qeD
 refine F.ok qeD (fun vs H Q E h=>by obtain ⟨_,_,rfl,_⟩:=h;rfl) (fun cdv A outer s H vs Q E hr h=>?_)
 obtain ⟨x0,x1,rfl,h⟩:=h
 refine ⟨_,(qac (qaB (PW.pt (qll (qbD (qbg (qav qbp (by rfl) T.n_isinstance PyProof.Rows.boot_isinstance (qaa (pv 1) (qaa (qed (v := .ty "list") (by rfl) T.n_list PyProof.Rows.boot_list rfl) qab))))) (qh4 (qal qkg (qav (qaO (K:=K) rfl) (by rfl) T.n_len PySem.boot_len (qaa (pv 1) qab)) (qcX T.c_MOST_SETS (by rfl)) (qas _))))) (qad (qai qkr)) qak)
   (qac (qat (i:=2) sc.nd rfl (Or.inl rfl) (qqy qpf qae))
   (qac (qaY PassesOwn.never rfl (qaJ (pv 1)) (qan (i:=3) sc.nd rfl (Or.inl rfl)) (qac (qaB (PW.pt (qll (qbD (qbg (pec C_53 hr (qaa (pv 0) (qaa (pv 3) qab))))) (qh4 (qal qog (pv 3) (pv 2) (qas _))))) (qad (qai qkr)) qak)
   (qad (qat (i:=2) sc.nd rfl (Or.inl rfl) (pv 3)))))
   (qad (qai qkr))))),?_⟩
 refine rdg (σ':=[some x0,some x1,none,none]) rfl ?_
 obtain ⟨m,rfl,hm,h⟩:=h
 walk_at "rd"
 rcases h with ⟨p,xs,rfl,f1,hl,kd,q⟩ | ⟨t,hk,hne,q⟩
 · refine ⟨_, "list",⟨rfl,rfl⟩, "list",qrB f1,by decide,?_⟩
   rw [if_neg (by decide)]
   refine ⟨p,rfl,_,.inl (SqL.of f1),?_⟩
   (try walk_at "rd")
   by_cases h70:xs.length≤70
   · rw [if_neg (by omega)]
     rw [decide_eq_true h70,yfw] at q
     refine ⟨⟨_,SqL.of f1⟩,qjP (xs:=xs) (fun i σ H'=>∃(b:Int) (v:Option V),σ=[some (.int m),some (.ref p),some (.int b),v]∧H'=H∧qnX m (-1) xs=qnX m b (xs.drop i)) ⟨-1,none,rfl,rfl,rfl⟩ (fun i σ H' _ ⟨_,_,_,e,_⟩=>e▸SqL.of f1) ?_ ?_⟩
     · rintro i x σ H' hx ⟨b,v,rfl,rfl,ef⟩ N hN
       have hi:=ycl.mp hx
       have ed:xs.drop i=x::xs.drop (i+1):=by rw [yhk hi.1,hi.2]
       rw [ed] at ef
       obtain ⟨t,ht⟩:=kd x (yck hx)
       (try walk_at "rd")
       by_cases hz:∃z,x = .int z
       · obtain ⟨z,rfl⟩:=hz
         refine ⟨_,_,rfl,.inl ⟨m,z,rfl,rfl,hm,?_⟩⟩
         have ef':qnX m (-1) xs=(decide (0≤z)&&decide (z<(2^m:Nat))&&decide (b<z)&&qnX m z (xs.drop (i+1))):=ef
         (try walk_at "rd")
         by_cases hs:(decide (0≤z)&&decide (z<(2^m:Nat)))=false
         · rw [if_pos hs]
           rw [ef',hs,yeu,yeu] at q
           exact q
         · rw [if_neg hs]
           rw [(Bool.not_eq_false _).mp hs,yfw] at ef'
           by_cases hb:b<z
           · rw [if_neg (by omega)]
             rw [decide_eq_true hb,yfw] at ef'
             exact hN _ _ ⟨z,_,rfl,rfl,ef'⟩
           · rw [if_pos (by omega)]
             rw [ef',decide_eq_false hb,yeu] at q
             exact q
       · have hz':∀i,x ≠ .int i:=fun i e=>hz ⟨i,e⟩
         refine ⟨_,_,rfl,.inr ⟨t,ht,qsv ht hz',?_⟩⟩
         (try walk_at "rd")
         rw [ef,qqd hz'] at q
         exact q
     · rintro σ H' ⟨b,v,rfl,rfl,ef⟩
       rw [List.drop_length] at ef
       rw [ef] at q
       (try walk_at "rd")
       exact q
   · rw [if_pos (by omega)]
     rw [decide_eq_false h70,yeu] at q
     exact q
 · refine ⟨_, "list",⟨rfl,rfl⟩,t,hk,by decide,?_⟩
   rw [qoN hne]
   exact q
abbrev qec:Stmt:=top 11
def qfp:qam ["one"] ["one"] (qag qec):=fsc
def qdX:Sp:=sp1 fun x H Q=>∃a:Nat,x = .int a∧a<256∧∀H' p,qar H H'→H' p=none→Q (.ref p) (upd H' p (.lst (nV (Fam.nms 8 a))))
def qnH:∀a:Nat,a<256→(List.range (Builtin.Int.intBits (a:Int))).filter (fun k=>a.testBit k)=Fam.nms 8 a:=by decide +kernel
def qrc:∀a:Nat,a<256→Builtin.Int.intBits (a:Int)≤8:=by decide +kernel
def qiu {f:Addr} {fd:FuncData} (F:Fun K "names_in" "names_in" qec f fd) (T:Txt mg)  : qaQ P w K mg base CX0 1 f fd ["one"] qdX:=by
 have sc:=qfp
 refine F.ok qfp (fun vs H Q E h=>by obtain ⟨_,rfl,_⟩:=h;rfl) (fun cdv A outer s H vs Q E hr h=>?_)
 obtain ⟨x0,rfl,h⟩:=h
 refine ⟨_,(qad (qai (qaG (N:=["k", "one"]) (nt:=1) (caps:=[0]) qaC rfl (qaI (by rfl) T.n_range (qaa (qsl PySem.F.plainAttrs_int PySem.F.slot_int_bit_length PySem.F.type_int_bit_length qmN (pv 0)) qab)) (fun _ _ _ _ _=>(qan (i:=0) (show List.Nodup (α:=Str) ["k", "one"] from by decide +kernel) rfl (Or.inl rfl))) qaE (fun _ _ _ _ _=>(qfj (qal (qax (K:=K) rfl hr.units0) (qap qfd (qap qpk (pv 1) (pv 0)) qae) qae (qas _)))) (fun _ _ _ _ _=>(pv 0))))),?_⟩
 refine rdg (σ':=[some x0]) rfl ?_
 obtain ⟨a,rfl,ha,q⟩:=h
 walk_at "rd"
 have hb:=qrc a ha
 refine ⟨by simp [tyV],by omega,by omega,?_⟩
 rw [yfg]
 refine qdf (fun k=>a.testBit k) (fun k => .int (k:Nat)) (by omega) (fun k hk H1 sm R R' r1 r2=>?_) fun H1 p sm hp=>?_
 · walk_at "rd"
   refine ⟨by omega,qgM qjb (fun hc=>r1 hc _ (qar.refl _)) fun hc=>r2 hc _ (qar.refl _)⟩
 · rw [qjZ,qnH a ha]
   exact q H1 p sm hp
abbrev qhj:Stmt:=top 12
def qin:qam ["names", "one", "k"] ["names"] (qag qhj):=fsc
def qmE (K:W.Frag):Sp:=sp1 fun x H Q=>∃p fs,x = .ref p∧SqL K H p (nV fs)∧(∀k∈fs,k<8)∧Q (.int (Fam.ofN fs:Nat)) H
def qk8 {fs:List Nat} {i a:Nat} (h:fs[i]?=some a):fs.take (i+1)=fs.take i++[a]:=by rw [ygr,h];rfl
def qjM (L:List Nat) (a:Nat):Fam.ofN (L++[a])=Fam.ofN L|||2^a:=by unfold Fam.ofN;rw [yas];rfl
def qld {f:Addr} {fd:FuncData} (F:Fun K "set_of" "set_of" qhj f fd) (T:Txt mg)  : qaQ P w K mg base CX0 1 f fd ["names"] (qmE K):=by
 have sc:=qin
 refine F.ok qin (fun vs H Q E h=>by obtain ⟨_,rfl,_⟩:=h;rfl) (fun cdv A outer s H vs Q E hr h=>?_)
 obtain ⟨x0,rfl,h⟩:=h
 refine ⟨_,(qac (qat (i:=1) sc.nd rfl (Or.inl rfl) qae)
   (qac (qaY PassesOwn.never rfl (qaJ (pv 0)) (qan (i:=2) sc.nd rfl (Or.inl rfl)) (qad (qat (i:=1) sc.nd rfl (Or.inl rfl) (qap qgL (pv 1) (qap qbE qae (pv 2))))))
   (qad (qai (pv 1))))),?_⟩
 refine rdg (σ':=[some x0,none,none]) rfl ?_
 obtain ⟨p,fs,rfl,hq,hb,q⟩:=h
 walk_at "rd"
 refine ⟨⟨_,hq⟩,qqC (xs:=nV fs) (fun i σ H'=>∃v,σ=[some (.ref p),some (.int (Fam.ofN (fs.take i):Nat)),v]∧H'=H) ⟨none,rfl,rfl⟩ (fun i σ H' _ ⟨v,_,e⟩=>e▸hq) ?_ ?_⟩
 · rintro i x σ H' hx ⟨v,rfl,rfl⟩
   obtain ⟨a,ha,rfl⟩:=qjL hx
   have h8:=hb a (yck ha)
   walk_at "rd"
   refine ⟨qa9 (by omega) (by omega) (by decide) (by decide),?_⟩
   rw [qk8 ha,qjM,←qdF,qbn]
 · rintro σ H' ⟨v,rfl,rfl⟩
   rw [qa1,ydi]
   exact ⟨_,rfl,q⟩
abbrev qhh:Stmt:=top 33
def qic:qam ["text", "sign"] ["text", "sign"] (qag qhh):=fsc
def qeU:Sp:=sp2 fun x y H Q=>∃z s:Str,x = .str z∧y = .str s∧(s.length==0)=false∧z.length≤10000∧∀p H',H p=none→qar H H'→H' p=some (.lst (sV (Txt.split z s)))→Q (.ref p) H'
def qli {f:Addr} {fd:FuncData} (F:Fun K "parted" "parted" qhh f fd) (T:Txt mg)  : qaQ P w K mg base CX0 1 f fd ["text", "sign"] qeU:=by
 have sc:=qic
 refine F.ok qic (fun vs H Q E h=>by obtain ⟨_,_,rfl,_⟩:=h;rfl) (fun cdv A outer s H vs Q E hr h=>?_)
 obtain ⟨x0,x1,rfl,h⟩:=h
 refine ⟨_,(qac (qaB (qbD (qbg (qav qbp (by rfl) T.n_isinstance PyProof.Rows.boot_isinstance (qaa (pv 0) (qaa (qed (v := .ty "str") (by rfl) T.n_str PyProof.Rows.boot_str rfl) qab))))) (qad qa2) qak)
   (qad (qai (qbf yhg yhl yhm qgy (pv 0) (qaa (pv 1) qab))))),?_⟩
 refine rdg (σ':=[some x0,some x1]) rfl ?_
 obtain ⟨z,s,rfl,rfl,hs,hz,q⟩:=h
 walk_at "rd"
 refine ⟨_,_,⟨rfl,rfl⟩, "str",rfl,by decide,?_⟩
 rw [if_neg (by decide)]
 exact ⟨rfl,z,s,rfl,rfl,hs,by omega,fun l hl=>q l _ hl (qar.new hl) qaf⟩
abbrev qe2:Stmt:=top 32
def qgo:qam ["text"] ["text"] (qag qe2):=fsc
def qgq:Sp:=sp1 fun x H Q=>∃z:Str,x = .str z∧Tx.Wd z∧∀H',qar H H'→Q (.bl true) H'
def qkd {f:Addr} {fd:FuncData} (F:Fun K "is_word" "is_word" qe2 f fd) (T:Txt mg)  : qaQ P w K mg base CX0 1 f fd ["text"] qgq:=by
 have sc:=qgo
 refine F.ok qgo (fun vs H Q E h=>by obtain ⟨_,rfl,_⟩:=h;rfl) (fun cdv A outer s H vs Q E hr h=>?_)
 obtain ⟨x0,rfl,h⟩:=h
 refine ⟨_,(qad (qai (qjz (qhi qog qog qae (qav qht (by rfl) T.n_len PySem.boot_len (qaa (pv 0) qab)) (qcX T.c_MOST_LETTERS (by rfl))) (qjE (qav (qoh (K:=K) rfl rfl) (by rfl) T.n_all PyProof.Rows.boot_all (qaa (qaG (N:=["sign"]) (nt:=1) (caps:=[]) qaC rfl (qsX (pv 0)) (fun _ _ _ _ _=>(qan (i:=0) (show List.Nodup (α:=Str) ["sign"] from by decide +kernel) rfl (Or.inl rfl))) qaE (fun _ _ _ _ _=>qaF) (fun _ _ _ _ _=>(qhi qib qib qaj (pv 0) qaj))) qab)))))),?_⟩
 refine rdg (σ':=[some x0]) rfl ?_
 obtain ⟨z,rfl,hz,q⟩:=h
 walk_at "rd"
 have e24:sizeLine=16777216:=sizeLine_eq
 obtain ⟨h1,h8,hc⟩:=id hz
 refine ⟨by omega,?_⟩
 rw [if_pos (by omega),if_pos (by omega)]
 refine ⟨qod hz,qs1 (fun _=>true) (fun _ => .bl true) (by omega) (fun x hx H1 s1 R R' r1 r2=>?_) fun H1 p s1 hp=>?_⟩
 · obtain ⟨c1,c2⟩:=hc x hx
   (try walk_at "rd")
   have b1:=quL c1
   have b2:(!decide (("z" : Str).cps.toList < [x]))=true:=quT c2
   refine ⟨true,by simpa using b1,qez ?_⟩
   rw [b2]
   exact r1 rfl _ (qar.refl _)
 · refine ⟨p,(sgs z).map fun _=>true,rfl,SqL.of ?_,?_⟩
   · rw [qaf,ygf.mpr fun _ _=>rfl,ycv]
     rfl
   · rw [show ((sgs z).map fun _=>true).all id=true by simp]
     exact q _ (s1.trans (qar.new hp))
abbrev qcz:Stmt:=top 26
def qdG:qam ["text", "words", "word"] ["text"] (qag qcz):=fsc
def qe7 (K:W.Frag):Sp:=sp1 fun x H Q=>∃ws:List Str,x = .str (Txt.join " " ws)∧Tx.Wds ws∧∀p H',H p=none→qar H H'→H' p=some (.lst (sV ws))→Q (.ref p) H'
def qgH {f:Addr} {fd:FuncData} (F:Fun K "read_names" "read_names" qcz f fd) (T:Txt mg) {f_55:Addr} {fd_55:FuncData} (C_55:Cal P w K mg base "parted" 1 ["text", "sign"] qeU f_55 fd_55) {f_50:Addr} {fd_50:FuncData} (C_50:Cal P w K mg base "is_word" 1 ["text"] qgq f_50 fd_50):qaQ P w K mg base CX0 2 f fd ["text"] (qe7 K):=by
 have sc:=qdG
 refine F.ok qdG (fun vs H Q E h=>by obtain ⟨_,rfl,_⟩:=h;rfl) (fun cdv A outer s H vs Q E hr h=>?_)
 obtain ⟨x0,rfl,h⟩:=h
 refine ⟨_,(qac (qat (i:=1) sc.nd rfl (Or.inl rfl) (pec C_55 hr (qaa (pv 0) (qaa qaj qab))))
   (qac (qaB (qal (qax (K:=K) rfl hr.units0) (pv 1) (qaH (qaa qaj qab)) (qas _)) (qad (qai (qaH qab))) qak)
   (qac (qaB (PW.pt (qll (qal qkg (qav (qaO (K:=K) rfl) (by rfl) T.n_len PySem.boot_len (qaa (pv 1) qab)) (qcX T.c_MOST_NAMES (by rfl)) (qas _)) (qh4 (qal qol (qav (qmC (P:=P) (w:=w) rfl rfl) (by rfl) T.n_len PySem.boot_len (qaa (qaT (qmw (P:=P) (w:=w) (K:=K) rfl rfl rfl rfl) (by rfl) T.n_set PyProof.Rows.boot_set (qaa (pv 1) qab)) qab)) (qav (qaO (K:=K) rfl) (by rfl) T.n_len PySem.boot_len (qaa (pv 1) qab)) (qas _))))) (qad qa2) qak)
   (qac (qaY PassesOwn.never rfl (qaJ (pv 1)) (qan (i:=2) sc.nd rfl (Or.inl rfl)) (qad (qaB (PW.pt (qll (qbD (qbg (pec C_50 hr (qaa (pv 2) qab)))) (qh4 (qal (qax (K:=K) rfl hr.units0) (pv 2) (qcA T.c_NO_SETS (by rfl)) (qas _))))) (qad qa2) qak)))
   (qad (qai (pv 1))))))),?_⟩
 refine rdg (σ':=[some x0,none,none]) rfl ?_
 obtain ⟨ws,rfl,hw,q⟩:=h
 walk_at "rd"
 by_cases h0:ws=[]
 · subst h0
   refine ⟨_,_,rfl,_,_,rfl,rfl,by rw [Tx.lit_space];rfl,by decide +kernel,fun p1 G1 hp1 s1 a1=>?_⟩
   rw [show Txt.split (Txt.join (" " : Str) []) " " = [("" : Str)] from by decide +kernel] at a1
   (try walk_at "rd")
   refine ⟨qaq (by simp),fun p2 hp2=>?_⟩
   generalize g2:upd G1 p2 _=G2
   have a2:G2 p2=some (.lst (sV [("" : Str)])):=qao g2
   have s2:=qah g2 hp2
   refine qkf (SqL.of (s2 _ _ a1)) (SqL.of a2) (qc9 _) (qc9 _) ?_
   rw [qhE]
   refine ⟨true,by simp,qez ⟨qaq (by simp),fun p3 hp3=>?_⟩⟩
   have s12:=s1.trans s2
   exact q _ _ (qau s12 hp3) (s12.trans (qar.new hp3)) qaf
 have hn:0<ws.length:=yhn.mpr h0
 have h8:=hw.few
 have hL:(Txt.join (" " : Str) ws).length≤100:=by
   rw [←Tx.len_sg,Tx.lit_space,Tx.txt_join]
   refine ydc (Tx.jn_len (M:=8) fun x hx=>?_) (ydc (ygn 9 (by rw [ycd];exact h8)) (by decide))
   obtain ⟨w,hw',rfl⟩:=ybt.mp hx
   rw [Tx.len_sg]
   exact (hw.wd w hw').2.1
 refine ⟨_,_,rfl,_,_,rfl,rfl,by rw [Tx.lit_space];rfl,by omega,fun p1 G1 hp1 s1 a1=>?_⟩
 rw [show Txt.split (Txt.join (" " : Str) ws) " " = ws from by rw [Tx.lit_space];exact Tx.split_join h0 fun w hw'=>(hw.wd w hw').free (by decide)] at a1
 (try walk_at "rd")
 refine ⟨qaq (by simp),fun p2 hp2=>?_⟩
 generalize g2:upd G1 p2 _=G2
 have a2:G2 p2=some (.lst (sV [("" : Str)])):=qao g2
 have s2:=qah g2 hp2
 have a1':=s2 _ _ a1
 refine qkf (SqL.of a1') (SqL.of a2) (qc9 _) (qc9 _) ?_
 rw [qhE]
 have ne:ws≠[("" : Str)]:=fun z=>by
   have hm:=hw.wd "" (by rw [z];exact ybe)
   have:=hm.1
   rw [Tx.lit_empty] at this
   exact absurd this (by decide)
 refine ⟨false,by simpa using ne,qc4 ?_⟩
 refine ⟨_,.inl (SqL.of a1'),?_⟩
 rw [qaR,if_neg (by omega)]
 refine ⟨p1,ws,rfl,SqL.of a1',by omega,fun p3 hp3=>?_⟩
 rw [qsI hw.nd]
 generalize g3:upd G2 p3 _=G3
 have a3:=qao g3
 have s3:=qah g3 hp3
 have a1'':=s3 _ _ a1'
 refine ⟨p3,_,rfl,a3,by omega,?_⟩
 refine ⟨_,.inl (SqL.of a1''),?_⟩
 (try walk_at "rd")
 rw [qaR,if_neg (by omega)]
 refine ⟨⟨_,SqL.of a1''⟩,qjP (xs:=sV ws) (fun i σ H'=>∃v,σ=[some (.str (Txt.join (" " : Str) ws)),some (.ref p1),v]∧qar G3 H') ⟨none,rfl,qar.refl _⟩ (fun i σ H' _ ⟨_,_,e⟩=>SqL.of (e _ _ a1'')) ?_ ?_⟩
 · rintro i x σ H4 hx ⟨v,rfl,s4⟩ N hN
   obtain ⟨w,hw',rfl⟩:=ybt.mp (yck hx)
   (try walk_at "rd")
   refine ⟨_,rfl,w,rfl,hw.wd w hw',fun H5 s5=>⟨true,rfl,?_⟩⟩
   rw [if_neg (by decide)]
   have nn:w≠("none" : Str):=fun z=>hw.no (by rw [←z];exact hw')
   rw [if_neg nn]
   exact hN _ _ ⟨_,rfl,s4.trans s5⟩
 · rintro σ H4 ⟨v,rfl,s4⟩
   (try walk_at "rd")
   exact q p1 _ hp1 (((s1.trans s2).trans s3).trans s4) (s4 _ _ a1'')
abbrev qdl:Stmt:=top 31
def qeC:qam ["words", "word"] ["words", "word"] (qag qdl):=fsc
def qep (K:W.Frag):Sp:=sp2 fun x y H Q=>∃(p:Addr) (ws:List Str) (w:Str),x = .ref p∧H p=some (.lst (sV ws))∧ws.length≤8∧y = .str w∧w∈ws∧Q (.int (ws.idxOf w:Nat)) H
def qhU {f:Addr} {fd:FuncData} (F:Fun K "read_name" "read_name" qdl f fd) (T:Txt mg)  : qaQ P w K mg base CX0 1 f fd ["words", "word"] (qep K):=by
 have sc:=qeC
 refine F.ok qeC (fun vs H Q E h=>by obtain ⟨_,_,rfl,_⟩:=h;rfl) (fun cdv A outer s H vs Q E hr h=>?_)
 obtain ⟨x0,x1,rfl,h⟩:=h
 refine ⟨_,(qac (qaB (qal (qmQ (K:=K) rfl) (pv 1) (pv 0) (by with_unfolding_all rfl)) (qad qa2) qak)
   (qad (qai (qgn (K:=K) rfl yhd ygq PySem.F.type_list_index qmV (pv 0) (qaa (pv 1) qab))))),?_⟩
 refine rdg (σ':=[some x0,some x1]) rfl ?_
 obtain ⟨p,ws,w,rfl,f1,hl,rfl,hw,q⟩:=h
 walk_at "rd"
 refine ⟨_,.inl (SqL.of f1),rfl,qc9 _,false,by rw [quf];simpa using hw,?_⟩
 rw [if_neg (by decide)]
 exact ⟨.inl ⟨rfl,_,SqL.of f1⟩,p,ws,w,rfl,rfl,f1,hw,by omega,q⟩
abbrev qem:Stmt:=top 27
def qe4:qam ["words", "one"] ["words", "one"] (qag qem):=fsc
def qcJ (K:W.Frag):Sp:=sp2 fun x y H Q=>∃(p:Addr) (ws:List Str) (a:Nat),x = .ref p∧H p=some (.lst (sV ws))∧Tx.Wds ws∧y = .int (a:Nat)∧a<2^ws.length∧∀H',qar H H'→Q (.str (Tx.sT ws a)) H'
def qiw {f:Addr} {fd:FuncData} (F:Fun K "show_set" "show_set" qem f fd) (T:Txt mg) {f_41:Addr} {fd_41:FuncData} (C_41:Cal P w K mg base "names_in" 1 ["one"] qdX f_41 fd_41):qaQ P w K mg base CX0 2 f fd ["words", "one"] (qcJ K):=by
 have sc:=qe4
 refine F.ok qe4 (fun vs H Q E h=>by obtain ⟨_,_,rfl,_⟩:=h;rfl) (fun cdv A outer s H vs Q E hr h=>?_)
 obtain ⟨x0,x1,rfl,h⟩:=h
 refine ⟨_,(qac (qaB (qal (qax (K:=K) rfl hr.units0) (pv 1) qae (qas _)) (qad (qai (qcA T.c_NO_NAMES (by rfl)))) qak)
   (qad (qai (qbf yhg yhh yhi (qaM (K:=K) rfl) qaj (qaa (qaG (N:=["k", "words"]) (nt:=1) (caps:=[0]) qaC rfl (qaJ (pec C_41 hr (qaa (pv 1) qab))) (fun _ _ _ _ _=>(qan (i:=0) (show List.Nodup (α:=Str) ["k", "words"] from by decide +kernel) rfl (Or.inl rfl))) qaE (fun _ _ _ _ _=>qaF) (fun _ _ _ _ _=>(qaA (qaS (K:=K) rfl) (pv 1) (pv 0) (fun _ _=>rfl)))) qab))))),?_⟩
 refine rdg (σ':=[some x0,some x1]) rfl ?_
 obtain ⟨p,ws,a,rfl,f1,hw,rfl,ha,q⟩:=h
 walk_at "rd"
 by_cases h0:a=0
 · rw [if_pos (by omega)]
   rw [show Tx.sT ws a = "-" from if_pos h0] at q
   exact q _ (qar.refl _)
 rw [if_neg (by omega)]
 rw [show Tx.sT ws a=Txt.join "+" (Tx.wds ws a) from if_neg h0] at q
 refine ⟨rfl,_,rfl,a,rfl,Tx.lt256 hw ha,fun H1 p1 s1 hp1=>?_⟩
 generalize g1:upd H1 p1 _=G1
 have a1:=qao g1
 have s1:=s1.trans (qah g1 hp1)
 have l8:(Fam.nms 8 a).length≤8:=ydc (ygc _ _) (by simp)
 refine ⟨p1,rfl,⟨_,SqL.of a1⟩,qbQ (fs:=Fam.nms 8 a) (fun _=>true) (fun k => .str (ws.getD k Str.empty)) (SqL.of a1) (by omega) (fun k hk H2 s2 R R' r1 r2=>?_) fun H2 p2 s2 hp2=>?_⟩
 · (try walk_at "rd")
   have hl:=Tx.nms_lt ha hk
   exact qaP (SqL.of (s2 _ _ (s1 _ _ f1))) (qb8 (w:=ws.getD k Str.empty) (by rw [yci,ycj hl];rfl)) (r1 rfl _ (qar.refl _))
 · rw [ygf.mpr fun _ _=>rfl]
   have ew:(Fam.nms 8 a).map (fun k=>V.str (ws.getD k Str.empty))=sV (Tx.wds ws a):=by
     show _=List.map V.str (List.map _ _)
     rw [ycv]
     rfl
   rw [ew]
   refine ⟨_,p2,Tx.wds ws a,rfl,rfl,SqL.of qaf,qaD (M:=8) (N:=8) (fun y hy=>(hw.wd y (Tx.wds_mem hw ha hy)).2.1) (by unfold Tx.wds;rw [ycd];exact l8) (by rw [Tx.lit_plus];decide) (by decide),q _ ((s1.trans s2).trans (qar.new hp2))⟩
abbrev qck:Stmt:=top 28
def qdh:qam ["words", "family"] ["words", "family"] (qag qck):=fsc
def qig (K:W.Frag):Sp:=sp2 fun x y H Q=>∃(p p2:Addr) (ws:List Str) (fs:List Nat),x = .ref p∧H p=some (.lst (sV ws))∧Tx.Wds ws∧y = .ref p2∧H p2=some (.lst (nV fs))∧(∀b∈fs,b<2^ws.length)∧fs.length≤70∧∀H',qar H H'→Q (.str (Tx.fT ws fs)) H'
def qf1 {f:Addr} {fd:FuncData} (F:Fun K "show_family" "show_family" qck f fd) (T:Txt mg) {f_42:Addr} {fd_42:FuncData} (C_42:Cal P w K mg base "show_set" 2 ["words", "one"] (qcJ K) f_42 fd_42):qaQ P w K mg base CX0 3 f fd ["words", "family"] (qig K):=by
 have sc:=qdh
 refine F.ok qdh (fun vs H Q E h=>by obtain ⟨_,_,rfl,_⟩:=h;rfl) (fun cdv A outer s H vs Q E hr h=>?_)
 obtain ⟨x0,x1,rfl,h⟩:=h
 refine ⟨_,(qac (qaB (qal (qax (K:=K) rfl hr.units0) (qav (qaO (K:=K) rfl) (by rfl) T.n_len PySem.boot_len (qaa (pv 1) qab)) qae (qas _)) (qad (qai (qcA T.c_NO_SETS (by rfl)))) qak)
   (qad (qai (qbf yhg yhh yhi (qaM (K:=K) rfl) qaj (qaa (qaG (N:=["one", "words"]) (nt:=1) (caps:=[0]) qaC rfl (qaJ (pv 1)) (fun _ _ _ _ _=>(qan (i:=0) (show List.Nodup (α:=Str) ["one", "words"] from by decide +kernel) rfl (Or.inl rfl))) qaE (fun _ _ _ _ _=>qaF) (fun _ _ _ _ _=>(pec C_42 hr (qaa (pv 1) (qaa (pv 0) qab))))) qab))))),?_⟩
 refine rdg (σ':=[some x0,some x1]) rfl ?_
 obtain ⟨p,p2,ws,fs,rfl,f1,hw,rfl,f2,hb,hl,q⟩:=h
 walk_at "rd"
 refine ⟨_,.inl (SqL.of f2),?_⟩
 rw [qa1]
 by_cases h0:fs=[]
 · rw [if_pos (by rw [h0];rfl)]
   rw [show Tx.fT ws fs = "none" from if_pos h0] at q
   exact q _ (qar.refl _)
 have hn:0<fs.length:=yhn.mpr h0
 rw [if_neg (by omega)]
 rw [show Tx.fT ws fs=Txt.join " " (fs.map (Tx.sT ws)) from if_neg h0] at q
 refine ⟨rfl,⟨_,SqL.of f2⟩,qbQ (fs:=fs) (fun _=>true) (fun b => .str (Tx.sT ws b)) (SqL.of f2) (by omega) (fun b hb' H2 s2 R R' r1 r2=>?_) fun H2 p3 s2 hp3=>?_⟩
 · (try walk_at "rd")
   exact ⟨_,_,rfl,p,ws,b,rfl,s2 _ _ f1,hw,rfl,hb b hb',fun H3 s3=>r1 rfl _ s3⟩
 · rw [ygf.mpr fun _ _=>rfl]
   have ew:fs.map (fun b=>V.str (Tx.sT ws b))=sV (fs.map (Tx.sT ws)):=by
     show _=List.map V.str (List.map _ _)
     rw [ycv]
     rfl
   rw [ew]
   refine ⟨_,p3,fs.map (Tx.sT ws),rfl,rfl,SqL.of qaf,qaD (M:=72) (N:=70) (fun y hy=>?_) (by rw [ycd];exact hl) (by rw [Tx.lit_space];decide) (by decide),q _ (s2.trans (qar.new hp3))⟩
   obtain ⟨b,hb',rfl⟩:=ybt.mp hy
   exact Tx.sT_len hw (hb b hb')
abbrev qej:Stmt:=top 29
def qfP:qam ["words", "text", "parts", "names"] ["words", "text"] (qag qej):=fsc
def qfV (K:W.Frag):Sp:=sp2 fun x y H Q=>∃(p:Addr) (ws:List Str) (a:Nat),x = .ref p∧H p=some (.lst (sV ws))∧Tx.Wds ws∧y = .str (Tx.sT ws a)∧a<2^ws.length∧∀H',qar H H'→Q (.int (a:Nat)) H'
def qi9 {f:Addr} {fd:FuncData} (F:Fun K "read_set" "read_set" qej f fd) (T:Txt mg) {f_55:Addr} {fd_55:FuncData} (C_55:Cal P w K mg base "parted" 1 ["text", "sign"] qeU f_55 fd_55) {f_54:Addr} {fd_54:FuncData} (C_54:Cal P w K mg base "set_of" 1 ["names"] (qmE K) f_54 fd_54) {f_33:Addr} {fd_33:FuncData} (C_33:Cal P w K mg base "read_name" 1 ["words", "word"] (qep K) f_33 fd_33):qaQ P w K mg base CX0 2 f fd ["words", "text"] (qfV K):=by
 have sc:=qfP
 refine F.ok qfP (fun vs H Q E h=>by obtain ⟨_,_,rfl,_⟩:=h;rfl) (fun cdv A outer s H vs Q E hr h=>?_)
 obtain ⟨x0,x1,rfl,h⟩:=h
 refine ⟨_,(qac (qat (i:=2) sc.nd rfl (Or.inl rfl) (pec C_55 hr (qaa (pv 1) (qaa qaj qab))))
   (qac (qaB (qal (qax (K:=K) rfl hr.units0) (pv 2) (qaH (qaa (qcA T.c_NO_NAMES (by rfl)) qab)) (qas _)) (qad (qai qae)) qak)
   (qac (qcN (i:=3) sc.nd rfl rfl (by rfl) (N:=["word", "words"]) (nt:=1) (caps:=[0]) qaC rfl (qaJ (pv 2)) (fun _ _ _ _ _=>(qan (i:=0) (show List.Nodup (α:=Str) ["word", "words"] from by decide +kernel) rfl (Or.inl rfl))) qaE (fun _ _ _ _ _=>qaF) (fun _ _ _ _ _=>(pec C_33 hr (qaa (pv 1) (qaa (pv 0) qab)))))
   (qac (qaB (qal (qjF (K:=K) rfl hr.units0) (pv 3) (qav (qbr (P:=P) (w:=w) (K:=K) rfl rfl rfl rfl) (by rfl) T.n_sorted PyProof.Rows.boot_sorted (qaa (qaT (qdP (P:=P) (w:=w) (K:=K) rfl rfl rfl rfl) (by rfl) T.n_set PyProof.Rows.boot_set (qaa (pv 3) qab)) qab)) (qas _)) (qad qa2) qak)
   (qad (qai (pec C_54 hr (qaa (pv 3) qab)))))))),?_⟩
 refine rdg (σ':=[some x0,some x1,none,none]) rfl ?_
 obtain ⟨p,ws,a,rfl,f1,hw,rfl,ha,q⟩:=h
 walk_at "rd"
 refine ⟨_,_,rfl,_,_,rfl,rfl,by rw [Tx.lit_plus];rfl,by have:=Tx.sT_len hw ha;omega,fun p1 G1 hp1 s1 a1=>?_⟩
 rw [Tx.split_sT hw ha] at a1
 (try walk_at "rd")
 refine ⟨qaq (by simp),fun p2 hp2=>?_⟩
 generalize g2:upd G1 p2 _=G2
 have a2:G2 p2=some (.lst (sV [("-" : Str)])):=qao g2
 have s2:=qah g2 hp2
 have a1:=s2 _ _ a1
 have s12:=s1.trans s2
 refine qkf (SqL.of a1) (SqL.of a2) (qc9 _) (qc9 _) ?_
 rw [qhE]
 by_cases h0:a=0
 · rw [if_pos h0]
   refine ⟨true,by simp,qez ?_⟩
   subst h0
   exact q _ s12
 rw [if_neg h0] at a1 ⊢
 have nd:Tx.wds ws a≠[("-" : Str)]:=fun z=>by
   have hm:=hw.wd "-" (Tx.wds_mem hw ha (by rw [z];exact ybe))
   have:=hm.2.2 45 (by rw [Tx.lit_dash];exact ybe)
   omega
 refine ⟨false,by simpa using nd,qc4 ?_⟩
 have l8:(Fam.nms 8 a).length≤8:=ydc (ygc _ _) (by simp)
 have lw:(Tx.wds ws a).length≤8:=by unfold Tx.wds;rw [ycd];exact l8
 refine ⟨⟨_,SqL.of a1⟩,qmv (fs:=sV (Tx.wds ws a)) (fun _=>true) (fun v=>match v with | .str w => .int (ws.idxOf w:Nat) | _ => .non) (SqL.of a1) (by rw [qaR];omega) (fun x hx H3 s3 R R' r1 r2=>?_) fun H3 p3 s3 hp3=>?_⟩
 · obtain ⟨w,hw',rfl⟩:=ybt.mp hx
   (try walk_at "rd")
   exact ⟨_,_,rfl,p,ws,w,rfl,s3 _ _ (s12 _ _ f1),hw.few,rfl,Tx.wds_mem hw ha hw',r1 rfl _ (qar.refl _)⟩
 have en:((sV (Tx.wds ws a)).filter fun _=>true).map (fun v=>match v with | .str w=>V.int (ws.idxOf w:Nat) | _ => .non)=nV (Fam.nms 8 a):=by
   rw [ygf.mpr fun _ _=>rfl,←Tx.idx_wds hw ha,ycv]
   unfold nV nI
   rw [ycv,ycv]
   rfl
 rw [en]
 generalize g3:upd H3 p3 _=G3
 have a3:=qao g3
 have s3':=(s12.trans s3).trans (qah g3 hp3)
 refine ⟨p3,_,rfl,SqL.of a3,by rw [nI,ycd];omega,fun p4 hp4=>?_⟩
 generalize g4:upd G3 p4 _=G4
 have a4:=qao g4
 have a3:=qah g4 hp4 _ _ a3
 have s4:=s3'.trans (qah g4 hp4)
 refine ⟨p4,_,rfl,.inr a4,ydc (qcc _) (by rw [nI,ycd];omega),fun p5 ms hp5 m1 m2=>?_⟩
 rw [qbO m1 m2,qk2 (Fam.nms_rise 8 a)]
 generalize g5:upd G4 p5 _=G5
 have a5:=qao g5
 have a3:=qah g5 hp5 _ _ a3
 have s5:=s4.trans (qah g5 hp5)
 refine qub (SqL.of a3) (SqL.of a5) (qmi _) (qmi _) ⟨false,by rw [qo4];simp,qc4 ?_⟩
 refine ⟨_,rfl,p3,_,rfl,SqL.of a3,fun k hk=>(Fam.mem_nms.mp hk).1,?_⟩
 rw [Fam.ofN_nms (n:=8) (Tx.lt256 hw ha)]
 exact q _ s5
abbrev qcm:Stmt:=top 30
def qde:qam ["words", "text", "parts", "family"] ["words", "text"] (qag qcm):=fsc
def qoQ {m:Nat}:∀(fs:List Nat) (b:Int),(∀x∈fs,b<(x:Int))→fs.Pairwise (· < ·)→(∀x∈fs,x<2^m)→qnX m b (nV fs)=true
 | [],_,_,_,_=>rfl
 | x::r,b,h1,h2,h3=>by
   have h2:=ybf.mp h2
   have h4:=h3 x ybe
   show (decide (0≤(x:Int))&&decide ((x:Int)<(2^m:Nat))&&decide (b<(x:Int))&&qnX m (x:Int) (nV r))=true
   rw [decide_eq_true (by omega),decide_eq_true (by omega),decide_eq_true (h1 x ybe),qoQ r x (fun y hy=>by have:=h2.1 y hy;omega) h2.2 fun y hy=>h3 y (ybh _ hy)]
   rfl
def qhI (K:W.Frag):Sp:=sp2 fun x y H Q=>∃(p:Addr) (ws:List Str) (fs:List Nat),x = .ref p∧H p=some (.lst (sV ws))∧Tx.Wds ws∧y = .str (Tx.fT ws fs)∧(∀b∈fs,b<2^ws.length)∧fs.Pairwise (· < ·)∧fs.length≤70∧∀p' H',H p'=none→qar H H'→H' p'=some (.lst (nV fs))→Q (.ref p') H'
def qfZ {f:Addr} {fd:FuncData} (F:Fun K "read_family" "read_family" qcm f fd) (T:Txt mg) {f_55:Addr} {fd_55:FuncData} (C_55:Cal P w K mg base "parted" 1 ["text", "sign"] qeU f_55 fd_55) {f_43:Addr} {fd_43:FuncData} (C_43:Cal P w K mg base "read_set" 2 ["words", "text"] (qfV K) f_43 fd_43) {f_32:Addr} {fd_32:FuncData} (C_32:Cal P w K mg base "is_family" 3 ["many", "thing"] (qlH K) f_32 fd_32):qaQ P w K mg base CX0 4 f fd ["words", "text"] (qhI K):=by
 have sc:=qde
 refine F.ok qde (fun vs H Q E h=>by obtain ⟨_,_,rfl,_⟩:=h;rfl) (fun cdv A outer s H vs Q E hr h=>?_)
 obtain ⟨x0,x1,rfl,h⟩:=h
 refine ⟨_,(qac (qat (i:=2) sc.nd rfl (Or.inl rfl) (pec C_55 hr (qaa (pv 1) (qaa qaj qab))))
   (qac (qaB (qal (qax (K:=K) rfl hr.units0) (pv 2) (qaH (qaa (qcA T.c_NO_SETS (by rfl)) qab)) (qas _)) (qad (qai (qaH qab))) qak)
   (qac (qcN (i:=3) sc.nd rfl rfl (by rfl) (N:=["part", "words"]) (nt:=1) (caps:=[0]) qaC rfl (qaJ (pv 2)) (fun _ _ _ _ _=>(qan (i:=0) (show List.Nodup (α:=Str) ["part", "words"] from by decide +kernel) rfl (Or.inl rfl))) qaE (fun _ _ _ _ _=>qaF) (fun _ _ _ _ _=>(pec C_43 hr (qaa (pv 1) (qaa (pv 0) qab)))))
   (qac (qaB (qbD (qbg (pec C_32 hr (qaa (qav (qaO (K:=K) rfl) (by rfl) T.n_len PySem.boot_len (qaa (pv 0) qab)) (qaa (pv 3) qab))))) (qad qa2) qak)
   (qad (qai (pv 3))))))),?_⟩
 refine rdg (σ':=[some x0,some x1,none,none]) rfl ?_
 obtain ⟨p,ws,fs,rfl,f1,hw,rfl,hb,hr,hl,q⟩:=h
 walk_at "rd"
 refine ⟨_,_,rfl,_,_,rfl,rfl,by rw [Tx.lit_space];rfl,by have:=Tx.fT_len hw hb (by omega);omega,fun p1 G1 hp1 s1 a1=>?_⟩
 rw [Tx.split_fT hw hb] at a1
 (try walk_at "rd")
 refine ⟨qaq (by simp),fun p2 hp2=>?_⟩
 generalize g2:upd G1 p2 _=G2
 have a2:G2 p2=some (.lst (sV [("none" : Str)])):=qao g2
 have s2:=qah g2 hp2
 have a1:=s2 _ _ a1
 have s12:=s1.trans s2
 refine qkf (SqL.of a1) (SqL.of a2) (qc9 _) (qc9 _) ?_
 rw [qhE]
 by_cases h0:fs=[]
 · rw [if_pos h0]
   refine ⟨true,by simp,qez ⟨qaq (by simp),fun p3 hp3=>?_⟩⟩
   subst h0
   exact q _ _ (qau s12 hp3) (s12.trans (qar.new hp3)) qaf
 rw [if_neg h0] at a1 ⊢
 have ne:fs.map (Tx.sT ws)≠[("none" : Str)]:=fun z=>by
   have hm:("none" : Str)∈fs.map (Tx.sT ws):=by rw [z];exact ybe
   obtain ⟨b,hb',e⟩:=ybt.mp hm
   exact Tx.sT_none hw (hb b hb') e
 refine ⟨false,by simpa using ne,qc4 ?_⟩
 have lz:(sV (fs.map (Tx.sT ws))).length=fs.length:=by rw [qaR,ycd]
 refine ⟨⟨_,SqL.of a1⟩,qe3 (xs:=sV (fs.map (Tx.sT ws))) (fun i ys H3=>qar G2 H3∧ys=nV (fs.take i)) ⟨qar.refl _,rfl⟩ (by rw [lz];exact qaq (by omega)) (fun i ys H3 hi ⟨s,e⟩=>⟨SqL.of (s _ _ a1),by rw [e,qa1,yfb];omega⟩) (fun i x ys H3 hx ⟨s3,e3⟩ R R' r1 r2=>?_) fun ys H3 ⟨s3,e3⟩ p3 hp3=>?_⟩
 · rw [yco,yco] at hx
   cases eb:fs[i]? with
   | none=>rw [eb] at hx;cases hx
   | some b =>
     rw [eb] at hx
     cases hx
     (try walk_at "rd")
     refine ⟨_,_,rfl,p,ws,b,rfl,s3 _ _ (s12 _ _ f1),hw,rfl,hb b (yck eb),fun H4 s4=>r1 _ _ ⟨s3.trans s4,?_⟩⟩
     rw [e3,ygr,eb]
     simp [nV,nI]
 rw [lz,ydi] at e3
 subst e3
 generalize g3:upd H3 p3 _=G3
 have a3:=qao g3
 have s4:=(s12.trans s3).trans (qah g3 hp3)
 refine ⟨_,.inl (SqL.of (s4 _ _ f1)),?_⟩
 rw [qaR]
 refine ⟨_,_,rfl,ws.length,rfl,hw.few,.inl ⟨p3,nV fs,rfl,a3,by rw [qa1];omega,fun x hx=>?_,?_⟩⟩
 · obtain ⟨b,_,rfl⟩:=qoZ hx
   exact ⟨"int",rfl⟩
 rw [qoQ fs (-1) (fun x _=>by omega) hr hb,qa1,decide_eq_true (show fs.length≤70 from hl)]
 refine ⟨true,rfl,?_⟩
 rw [if_neg (by decide)]
 exact q p3 _ (qau (s12.trans s3) hp3) s4 a3
abbrev qi2:Stmt:=top 13
def qjT:qam ["one", "other"] ["one", "other"] (qag qi2):=fsc
def qlZ:Sp:=sp2 fun x y H Q=>∃a b:Nat,x = .int a∧y = .int b∧Q (.bl (decide (Fam.sub b a))) H
def qoE {f:Addr} {fd:FuncData} (F:Fun K "holds" "holds" qi2 f fd) (T:Txt mg)  : qaQ P w K mg base CX0 1 f fd ["one", "other"] qlZ:=by
 have sc:=qjT
 refine F.ok qjT (fun vs H Q E h=>by obtain ⟨_,_,rfl,_⟩:=h;rfl) (fun cdv A outer s H vs Q E hr h=>?_)
 obtain ⟨x0,x1,rfl,h⟩:=h
 refine ⟨_,(qad (qai (qfA (qax (K:=K) rfl hr.units0) (qap qfd (pv 0) (pv 1)) (pv 1) (qas _)))),?_⟩
 refine rdg (σ':=[some x0,some x1]) rfl ?_
 obtain ⟨a,b,rfl,rfl,q⟩:=h
 walk_at "rd"
 rw [qdt,show decide (((a&&&b:Nat):Int)=(b:Int))=decide (Fam.sub b a) from decide_eq_decide.mpr (by unfold Fam.sub;omega)]
 exact q
abbrev qiy:Stmt:=top 14
def qjV:qam ["one", "other"] ["one", "other"] (qag qiy):=fsc
def qiE:Sp:=sp2 fun x y H Q=>∃a b:Nat,x = .int a∧y = .int b∧Q (.bl (decide (Fam.mt a b))) H
def qor {f:Addr} {fd:FuncData} (F:Fun K "meets" "meets" qiy f fd) (T:Txt mg)  : qaQ P w K mg base CX0 1 f fd ["one", "other"] qiE:=by
 have sc:=qjV
 refine F.ok qjV (fun vs H Q E h=>by obtain ⟨_,_,rfl,_⟩:=h;rfl) (fun cdv A outer s H vs Q E hr h=>?_)
 obtain ⟨x0,x1,rfl,h⟩:=h
 refine ⟨_,(qad (qai (qfA (qjF (K:=K) rfl hr.units0) (qap qfd (pv 0) (pv 1)) qae (qas _)))),?_⟩
 refine rdg (σ':=[some x0,some x1]) rfl ?_
 obtain ⟨a,b,rfl,rfl,q⟩:=h
 walk_at "rd"
 rw [qdt,show (!decide (((a&&&b:Nat):Int)=0))=decide (Fam.mt a b) from by
   rw [←decide_not]
   exact decide_eq_decide.mpr (by unfold Fam.mt;omega)]
 exact q
abbrev qmP:Stmt:=top 15
def qlw:qam ["many", "one", "whole_ground"] ["many", "one"] (qag qmP):=fsc
def qnf:Sp:=sp2 fun x y H Q=>∃m a:Nat,x = .int m∧y = .int a∧m≤8∧a<2^m∧Q (.int (Fam.rst m a:Nat)) H
def qqE {m a:Nat} (h:a<2^m):Builtin.bitAnd (1*2^(m:Int).toNat-1) (Builtin.bitNot a)=((Fam.rst m a:Nat):Int):=by
 rw [Int.one_mul,yfg,qg1,bitAnd_not]
 have e:(((2^m:Nat):Int)-1)=((2^m-1:Nat):Int):=by have:=yai m;omega
 rw [e,qdt,Nat.and_comm,Nat.and_two_pow_sub_one_eq_mod,yho h]
 unfold Fam.rst
 omega
def qrb {f:Addr} {fd:FuncData} (F:Fun K "rest" "rest" qmP f fd) (T:Txt mg)  : qaQ P w K mg base CX0 1 f fd ["many", "one"] qnf:=by
 have sc:=qlw
 refine F.ok qlw (fun vs H Q E h=>by obtain ⟨_,_,rfl,_⟩:=h;rfl) (fun cdv A outer s H vs Q E hr h=>?_)
 obtain ⟨x0,x1,rfl,h⟩:=h
 refine ⟨_,(qac (qat (i:=2) sc.nd rfl (Or.inl rfl) (qap qfS (qap qbE qae (pv 0)) qae))
   (qad (qai (qap qfd (pv 2) (qqy qrF (pv 1)))))),?_⟩
 refine rdg (σ':=[some x0,some x1,none]) rfl ?_
 obtain ⟨m,a,rfl,rfl,hm,ha,q⟩:=h
 walk_at "rd"
 refine ⟨qa9 (by omega) (by omega) (by decide) (by decide),?_⟩
 rw [qqE ha]
 exact q
abbrev qms:Stmt:=top 20
def qme:qam ["family", "one", "other"] ["family", "one"] (qag qms):=fsc
def qfe (K:W.Frag):Sp:=sp2 fun x y H Q=>∃(p:Addr) (fs:List Nat) (a:Nat),x = .ref p∧SqL K H p (nV fs)∧y = .int a∧Q (.bl (Fam.sayP fs a)) H
def qqF {α:Type} {fs:List α} {f:α→Bool} {i:Nat} {b:α} (h:fs[i]?=some b) (hb:f b=true):fs.any f=true:=ybm.mpr ⟨b,yck h,hb⟩
def qnO {α:Type} {fs:List α} {f:α→Bool} {i:Nat} {b:α} (h:fs[i]?=some b) (h0:(fs.take i).any f=false) (hb:f b=false):(fs.take (i+1)).any f=false:=by
 rw [ygr,h,List.any_append,h0]
 simpa using hb
def qrk {f:Addr} {fd:FuncData} (F:Fun K "says" "says" qms f fd) (T:Txt mg) {f_60:Addr} {fd_60:FuncData} (C_60:Cal P w K mg base "holds" 1 ["one", "other"] qlZ f_60 fd_60):qaQ P w K mg base CX0 2 f fd ["family", "one"] (qfe K):=by
 have sc:=qme
 refine F.ok qme (fun vs H Q E h=>by obtain ⟨_,_,rfl,_⟩:=h;rfl) (fun cdv A outer s H vs Q E hr h=>?_)
 obtain ⟨x0,x1,rfl,h⟩:=h
 refine ⟨_,(qac (qaY PassesOwn.never rfl (qaJ (pv 0)) (qan (i:=2) sc.nd rfl (Or.inl rfl)) (qad (qaB (qbg (pec C_60 hr (qaa (pv 1) (qaa (pv 2) qab)))) (qad (qai qkr)) qak)))
   (qad (qai qkr))),?_⟩
 refine rdg (σ':=[some x0,some x1,none]) rfl ?_
 obtain ⟨p,fs,a,rfl,hq,rfl,q⟩:=h
 walk_at "rd"
 refine ⟨⟨_,hq⟩,qfX (fun i σ H'=>∃v,σ=[some (.ref p),some (.int a),v]∧H'=H∧(fs.take i).any (fun b=>decide (Fam.sub b a))=false) ⟨none,rfl,rfl,rfl⟩ (fun i σ H' _ ⟨v,_,e,_⟩=>e▸hq) ?_ ?_⟩
 · rintro i b σ H' hb ⟨v,rfl,rfl,h0⟩ N hN
   (try walk_at "rd")
   refine ⟨_,_,rfl,a,b,rfl,rfl,_,rfl,qlu (fun hc=>?_) fun hc=>hN _ _ ⟨_,rfl,rfl,qnO hb h0 hc⟩⟩
   rw [show Fam.sayP fs a=true from qqF hb hc] at q
   exact q
 · rintro σ H' ⟨v,rfl,rfl,h0⟩
   rw [ydi] at h0
   rw [show Fam.sayP fs a=false from h0] at q
   exact q
abbrev qiL:Stmt:=top 19
def qjX:qam ["some", "found", "one"] ["some"] (qag qiL):=fsc
def qmU (K:W.Frag):Sp:=sp1 fun x H Q=>∃(p:Addr) (fs:List Nat),x = .ref p∧SqL K H p (nV fs)∧fs.length≤63∧∀H' p',H p'=none→qar H H'→H' p'=some (.lst (nV (Fam.mins (sd fs))))→Q (.ref p') H'
def qr1 (fs:List Nat) {ms:List Int} (m1:ms.Perm (qd7 (nI fs))) (m2:ms.Pairwise (·≤·)):(sd fs).length≤fs.length:=by
 have:=m1.length_eq
 rw [qbO m1 m2] at this
 have h2:=qcc (nI fs)
 simp at this h2
 omega
def qnu {f:Addr} {fd:FuncData} (F:Fun K "least" "least" qiL f fd) (T:Txt mg) {f_67:Addr} {fd_67:FuncData} (C_67:Cal P w K mg base "says" 2 ["family", "one"] (qfe K) f_67 fd_67):qaQ P w K mg base CX0 3 f fd ["some"] (qmU K):=by
 have sc:=qjX
 refine F.ok qjX (fun vs H Q E h=>by obtain ⟨_,rfl,_⟩:=h;rfl) (fun cdv A outer s H vs Q E hr h=>?_)
 obtain ⟨x0,rfl,h⟩:=h
 refine ⟨_,(qac (qat (i:=1) sc.nd rfl (Or.inl rfl) (qaH qab))
   (qac (qaY PassesOwn.never rfl (qaJ (qav (qbr (P:=P) (w:=w) (K:=K) rfl rfl rfl rfl) (by rfl) T.n_sorted PyProof.Rows.boot_sorted (qaa (qaT (qdP (P:=P) (w:=w) (K:=K) rfl rfl rfl rfl) (by rfl) T.n_set PyProof.Rows.boot_set (qaa (pv 0) qab)) qab))) (qan (i:=2) sc.nd rfl (Or.inl rfl)) (qad (qaB (qbD (qbg (pec C_67 hr (qaa (pv 1) (qaa (pv 2) qab))))) (qad (qb3 (qbf yhd yhe yhf qce (pv 1) (qaa (pv 2) qab)))) qak)))
   (qad (qai (pv 1))))),?_⟩
 refine rdg (σ':=[some x0,none,none]) rfl ?_
 obtain ⟨p,fs,rfl,hq,hl,q⟩:=h
 walk_at "rd"
 refine ⟨qaq (by simp),fun p0 hp0=>?_⟩
 generalize g0:upd H p0 _=G0
 have a0:=qao g0
 have t0:=qah g0 hp0
 refine ⟨p,_,rfl,t0.seq hq,by simp;omega,fun p1 hp1=>?_⟩
 generalize g1:upd G0 p1 _=G1
 have a1:=qao g1
 have t1:=t0.trans (qah g1 hp1)
 have n01:=qcs hp1 a0
 have a0:=qah g1 hp1 _ _ a0
 refine ⟨p1,_,rfl,.inr a1,ydc (qcc _) (by simp;omega),fun p2 ms hp2 m1 m2=>?_⟩
 have lsd:=qr1 fs m1 m2
 rw [qbO m1 m2]
 generalize g2:upd G1 p2 _=G2
 have a2:=qao g2
 have t2:=t1.trans (qah g2 hp2)
 have n02:=qcs hp2 a0
 have a0:=qah g2 hp2 _ _ a0
 refine ⟨p2,rfl,⟨_,SqL.of a2⟩,?_⟩
 refine qfX (fs:=sd fs) (fun i σ H3=>∃v,σ=[some (.ref p),some (.ref p0),v]∧H3=upd G2 p0 (.lst (nV (Fam.pick (fun _=>true) ((sd fs).take i))))) ⟨none,rfl,?_⟩ ?_ ?_ ?_
 · exact qjS a0
 · rintro i σ H3 hi ⟨v,rfl,rfl⟩
   exact SqL.of (by rw [qay (Ne.symm n02)];exact a2)
 · rintro i b σ H3 hbi ⟨v,rfl,rfl⟩ N hN
   have hlen:(Fam.pick (fun _=>true) ((sd fs).take i)).length≤1000:=ydc (Fam.pick_len _ _) (by rw [yfb];omega)
   have es:(sd fs).take (i+1)=(sd fs).take i++[b]:=by rw [ygr,hbi];rfl
   have fin:∀L,Fam.pick (fun _=>true) ((sd fs).take (i+1))=L→N [some (.ref p),some (.ref p0),some (.int b)] (upd G2 p0 (.lst (nV L))):=fun L e=>hN _ _ ⟨_,rfl,by rw [e]⟩
   rw [es,Fam.pick_snoc] at fin
   generalize Fam.pick (fun _=>true) ((sd fs).take i)=L at fin hlen ⊢
   (try walk_at "rd")
   refine ⟨_,_,rfl,p0,L,b,rfl,SqL.of qaf,rfl,?_⟩
   (try walk_at "rd")
   cases hs:Fam.sayP L b with
   | true =>
     rw [if_neg (by decide)]
     exact fin L (by rw [if_neg];rw [show (L.any fun c=>decide (Fam.sub c b))=true from hs];decide)
   | false =>
     rw [if_pos rfl]
     refine ⟨qcD (by rw [qa1];omega),?_⟩
     rw [qiR]
     exact fin (L++[b]) (by rw [if_pos];rw [show (L.any fun c=>decide (Fam.sub c b))=false from hs];decide)
 · rintro σ H3 ⟨v,rfl,rfl⟩
   rw [ydi]
   (try walk_at "rd")
   exact q _ p0 hp0 (t2.upd hp0) qaf
abbrev qiM:Stmt:=top 21
def qjx:qam ["many", "family"] ["many", "family"] (qag qiM):=fsc
def qjn {m:Nat} {fs:List Nat} (hr:fs.Pairwise (· < ·)) (hb:∀b∈fs,b<2^m):(Fam.rsts m fs).Pairwise (· < ·):=by
 unfold Fam.rsts
 rw [ybu,ybv]
 refine List.Pairwise.imp_of_mem (fun {a b} ha hb2 h=>?_) hr
 have:=hb a ha
 have:=hb b hb2
 unfold Fam.rst
 omega
def quJ {m:Nat} {fs:List Nat}:∀b∈Fam.rsts m fs,b<2^m:=fun b hb=>by
 unfold Fam.rsts at hb
 obtain ⟨a,_,rfl⟩:=ybt.mp (ybs.mp hb)
 exact Fam.rst_lt m a
def rsL_Fam.rsts {m:Nat} {fs:List Nat} (hb:∀b∈fs,b<2^m):Fam.rsts m (Fam.rsts m fs)=fs:=by
 unfold Fam.rsts
 rw [ygw,yar,ycv]
 conv=>rhs;rw [←yga fs]
 exact ych fun b h=>Fam.rst_rst (hb b h)
def qsZ {m:Nat} {fs:List Nat} (hr:fs.Pairwise (· < ·)) (hb:∀b∈fs,b<2^m):sd (fs.map (Fam.rst m))=Fam.rsts m fs:=(qqV (qjn hr hb) fun x=>by unfold Fam.rsts;rw [ybs]).symm
def qi6 (K:W.Frag):Sp:=sp2 fun x y H Q=>∃(m:Nat) (p:Addr) (fs:List Nat),x = .int m∧m≤8∧y = .ref p∧SqL K H p (nV fs)∧fs.Pairwise (· < ·)∧(∀b∈fs,b<2^m)∧fs.length≤63 ∧
 ∀H' p',H p'=none→qar H H'→H' p'=some (.lst (nV (Fam.rsts m fs)))→Q (.ref p') H'
def qou {f:Addr} {fd:FuncData} (F:Fun K "rests" "rests" qiM f fd) (T:Txt mg) {f_66:Addr} {fd_66:FuncData} (C_66:Cal P w K mg base "rest" 1 ["many", "one"] qnf f_66 fd_66):qaQ P w K mg base CX0 2 f fd ["many", "family"] (qi6 K):=by
 have sc:=qjx
 refine F.ok qjx (fun vs H Q E h=>by obtain ⟨_,_,rfl,_⟩:=h;rfl) (fun cdv A outer s H vs Q E hr h=>?_)
 obtain ⟨x0,x1,rfl,h⟩:=h
 refine ⟨_,(qad (qai (qav (qbr (P:=P) (w:=w) (K:=K) rfl rfl rfl rfl) (by rfl) T.n_sorted PyProof.Rows.boot_sorted (qaa (qaG (N:=["one", "many"]) (nt:=1) (caps:=[0]) qaC rfl (qaJ (pv 1)) (fun _ _ _ _ _=>(qan (i:=0) (show List.Nodup (α:=Str) ["one", "many"] from by decide +kernel) rfl (Or.inl rfl))) qaE (fun _ _ _ _ _=>qaF) (fun _ _ _ _ _=>(pec C_66 hr (qaa (pv 1) (qaa (pv 0) qab))))) qab)))),?_⟩
 refine rdg (σ':=[some x0,some x1]) rfl ?_
 obtain ⟨m,p,fs,rfl,hm,rfl,hq,hr,hb,hl,q⟩:=h
 walk_at "rd"
 refine ⟨⟨_,hq⟩,qbQ (fun _=>true) (fun b => .int (Fam.rst m b:Nat)) hq (by omega) (fun b hbm H1 s1 R R' r1 r2=>?_) fun H1 p1 s1 hp1=>?_⟩
 · (try walk_at "rd")
   exact ⟨_,_,rfl,m,b,rfl,rfl,hm,hb b hbm,r1 rfl _ (qar.refl _)⟩
 have e:(fs.filter fun _=>true).map (fun b=>V.int (Fam.rst m b:Nat))=nV (fs.map (Fam.rst m)):=by
   rw [ygf.mpr fun _ _=>rfl]
   simp
 rw [e]
 generalize e1:upd H1 p1 _=H2
 have f1:=qao e1
 have s2:=s1.trans (qah e1 hp1)
 refine ⟨p1,_,rfl,.inl (SqL.of f1),by simp;omega,fun l ms hl2 m1 m2=>?_⟩
 have nd:(fs.map (Fam.rst m)).Nodup:=by
   have:=(qjn hr hb).imp (fun {a b} (h:a<b)=>ydx h)
   unfold Fam.rsts at this
   exact (ybu.mp this).imp fun h=>Ne.symm h
 rw [qlf nd m1 m2,qsZ hr hb]
 exact q _ _ (qau s2 hl2) (s2.trans (qar.new hl2)) qaf
abbrev qb1:Stmt:=top 44
def qcv:qam ["family", "one", "other"] ["family", "one"] (qag qb1):=fsc
def oV (o:Option Nat):V:=match o with | some b => .int (b:Nat) | none => .non
def qgs (K:W.Frag):Sp:=sp2 fun x y H Q=>∃(p:Addr) (fs:List Nat) (a:Nat),x = .ref p∧SqL K H p (nV fs)∧y = .int a∧Q (oV (fs.find? fun b=>!decide (Fam.mt a b))) H
def qdW {fs:List Nat} {f:Nat→Bool} {i b:Nat} (h:fs[i]?=some b) (h0:(fs.take i).find? f=none) (hb:f b=false):(fs.take (i+1)).find? f=none:=by
 rw [ygr,h,yhp,h0]
 simp [hb]
def qdV {fs:List Nat} {f:Nat→Bool} {i b:Nat} (h:fs[i]?=some b) (h0:(fs.take i).find? f=none) (hb:f b=true):fs.find? f=some b:=by
 have e:fs=fs.take i++b::fs.drop (i+1):=by
   have hi:=(ycl.mp h).1
   have:=ydl i fs
   rw [yhk hi] at this
   rw [(ycl.mp h).2] at this
   exact this.symm
 rw [e,yhp,h0]
 simp [hb]
def qfG {f:Addr} {fd:FuncData} (F:Fun K "first_missed" "first_missed" qb1 f fd) (T:Txt mg) {f_61:Addr} {fd_61:FuncData} (C_61:Cal P w K mg base "meets" 1 ["one", "other"] qiE f_61 fd_61):qaQ P w K mg base CX0 2 f fd ["family", "one"] (qgs K):=by
 have sc:=qcv
 refine F.ok qcv (fun vs H Q E h=>by obtain ⟨_,_,rfl,_⟩:=h;rfl) (fun cdv A outer s H vs Q E hr h=>?_)
 obtain ⟨x0,x1,rfl,h⟩:=h
 refine ⟨_,(qac (qaY PassesOwn.never rfl (qaJ (pv 0)) (qan (i:=2) sc.nd rfl (Or.inl rfl)) (qad (qaB (qbD (qbg (pec C_61 hr (qaa (pv 1) (qaa (pv 2) qab))))) (qad (qai (pv 2))) qak)))
   (qad (qai qbJ))),?_⟩
 refine rdg (σ':=[some x0,some x1,none]) rfl ?_
 obtain ⟨p,fs,a,rfl,hq,rfl,q⟩:=h
 walk_at "rd"
 refine ⟨⟨_,hq⟩,qfX (fun i σ H'=>∃v,σ=[some (.ref p),some (.int a),v]∧H'=H∧(fs.take i).find? (fun b=>!decide (Fam.mt a b))=none) ⟨none,rfl,rfl,rfl⟩ (fun i σ H' _ ⟨v,_,e,_⟩=>e▸hq) ?_ ?_⟩
 · rintro i b σ H' hb ⟨v,rfl,rfl,h0⟩ N hN
   (try walk_at "rd")
   refine ⟨_,_,rfl,a,b,rfl,rfl,_,rfl,?_⟩
   cases hc:decide (Fam.mt a b) with
   | true =>
     rw [if_neg (by decide)]
     exact hN _ _ ⟨_,rfl,rfl,qdW hb h0 (by rw [hc];rfl)⟩
   | false =>
     rw [if_pos rfl]
     rw [qdV hb h0 (by rw [hc];rfl)] at q
     exact q
 · rintro σ H' ⟨v,rfl,rfl,h0⟩
   rw [ydi] at h0
   rw [h0] at q
   exact q
abbrev qmI:Stmt:=top 42
def qlL:qam ["many", "family", "found", "one"] ["many", "family"] (qag qmI):=fsc
def qoI (fs:List Nat) (a:Nat):(fs.find? fun b=>!decide (Fam.mt a b))=none↔Fam.hitP fs a=true:=by
 rw [ybx,Fam.hitP_iff]
 simp
def qmB (K:W.Frag):Sp:=sp2 fun x y H Q=>∃(m:Nat) (p:Addr) (fs:List Nat),x = .int m∧m≤8∧y = .ref p∧H p=some (.lst (nV fs))∧∀H' p',H p'=none→qar H H'→H' p'=some (.lst (nV (Fam.hits m fs)))→Q (.ref p') H'
def qpM {f:Addr} {fd:FuncData} (F:Fun K "hits" "hits" qmI f fd) (T:Txt mg) {f_67:Addr} {fd_67:FuncData} (C_67:Cal P w K mg base "says" 2 ["family", "one"] (qfe K) f_67 fd_67) {f_11:Addr} {fd_11:FuncData} (C_11:Cal P w K mg base "first_missed" 2 ["family", "one"] (qgs K) f_11 fd_11):qaQ P w K mg base CX0 3 f fd ["many", "family"] (qmB K):=by
 have sc:=qlL
 refine F.ok qlL (fun vs H Q E h=>by obtain ⟨_,_,rfl,_⟩:=h;rfl) (fun cdv A outer s H vs Q E hr h=>?_)
 obtain ⟨x0,x1,rfl,h⟩:=h
 refine ⟨_,(qac (qat (i:=2) sc.nd rfl (Or.inl rfl) (qaH qab))
   (qac (qaY PassesOwn.never rfl (qaI (by rfl) T.n_range (qaa (qap qbE qae (pv 0)) qab)) (qan (i:=3) sc.nd rfl (Or.inl rfl)) (qad (qaB (PW.pt (qey (qbD (qbg (pec C_67 hr (qaa (pv 2) (qaa (pv 3) qab))))) (qdy (qal qgh (pec C_11 hr (qaa (pv 1) (qaa (pv 3) qab))) qbJ (qas _))))) (qad (qb3 (qbf yhd yhe yhf qce (pv 2) (qaa (pv 3) qab)))) qak)))
   (qad (qai (pv 2))))),?_⟩
 refine rdg (σ':=[some x0,some x1,none,none]) rfl ?_
 obtain ⟨m,p,fs,rfl,hm,rfl,f1,q⟩:=h
 walk_at "rd"
 rw [qbn]
 have pp:=yai m
 have p8:2^m≤256:=yag (n:=2) (by decide) hm
 refine ⟨qaq (by simp),fun p0 hp0=>⟨qa9 (by omega) (by omega) (by decide) (by decide),by omega,by omega,?_⟩⟩
 rw [yfg]
 generalize g0:upd H p0 _=G0
 have a0:=qao g0
 have t0:=qah g0 hp0
 have n0:=qcs hp0 f1
 refine qdb (fun i σ H3=>∃v,σ=[some (.int m),some (.ref p),some (.ref p0),v]∧H3=upd G0 p0 (.lst (nV (Fam.pick (Fam.hitP fs) (List.range i))))) ⟨_,rfl,qjS a0⟩ ?_ ?_
 · rintro i σ H3 hi ⟨v,rfl,rfl⟩ N hN
   have hlen:(Fam.pick (Fam.hitP fs) (List.range i)).length≤1000:=ydc (Fam.pick_len _ _) (by simp;omega)
   have fin:∀L,Fam.pick (Fam.hitP fs) (List.range (i+1))=L→N [some (.int m),some (.ref p),some (.ref p0),some (.int (i:Nat))] (upd G0 p0 (.lst (nV L))):=fun L e=>hN _ _ ⟨_,rfl,by rw [e]⟩
   rw [yds,Fam.pick_snoc] at fin
   generalize Fam.pick (Fam.hitP fs) (List.range i)=L at fin hlen ⊢
   have fp:upd G0 p0 (.lst (nV L)) p=some (.lst (nV fs)):=by rw [qay n0];exact t0 _ _ f1
   (try walk_at "rd")
   refine ⟨_,_,rfl,p0,L,i,rfl,SqL.of qaf,rfl,?_⟩
   (try walk_at "rd")
   cases hs:Fam.sayP L i with
   | true =>
     rw [if_neg (by decide)]
     exact fin L (by rw [if_neg];rw [show (L.any fun c=>decide (Fam.sub c i))=true from hs];simp)
   | false =>
     rw [if_pos rfl]
     refine ⟨_,_,rfl,p,fs,i,rfl,SqL.of fp,rfl,?_⟩
     have hs':(L.any fun c=>decide (Fam.sub c i))=false:=hs
     have hf:=qoI fs i
     cases ho:(fs.find? fun b=>!decide (Fam.mt i b)) with
     | none =>
       have hh:=hf.mp ho
       refine ⟨rfl,?_⟩
       rw [if_pos (show oV none=V.non from rfl)]
       refine ⟨qcY qaf,qju.mpr ⟨qcD (by (try rw [qa1]);omega),?_⟩⟩
       rw [qiR]
       exact fin (L++[i]) (by rw [if_pos];rw [hs',hh];rfl)
     | some b =>
       have hh:Fam.hitP fs i=false:=by
         cases hq:Fam.hitP fs i with
         | false=>rfl
         | true=>rw [hf.mpr hq] at ho;cases ho
       refine ⟨rfl,?_⟩
       rw [if_neg (by intro z;cases z)]
       exact fin L (by rw [if_neg];rw [hs',hh];decide)
 · rintro σ H3 ⟨v,rfl,rfl⟩
   (try walk_at "rd")
   exact q _ p0 hp0 (t0.upd hp0) qaf
abbrev qdA:Stmt:=top 61
def qhT:qam ["family", "k"] ["family", "k"] (qag qdA):=fsc
def qh9 {f:Addr} {fd:FuncData} (F:Fun K "always_in" "always_in" qdA f fd) (T:Txt mg):qaQ P w K mg base CX0 1 f fd ["family", "k"] qoS:=F.ok qhT (fun vs H Q E h=>absurd h id) (fun cdv A outer s H vs Q E hr h=>absurd h id)
abbrev qcw:Stmt:=top 62
def qgP:qam ["family", "k"] ["family", "k"] (qag qcw):=fsc
def qgA {f:Addr} {fd:FuncData} (F:Fun K "always_out" "always_out" qcw f fd) (T:Txt mg):qaQ P w K mg base CX0 1 f fd ["family", "k"] qoS:=F.ok qgP (fun vs H Q E h=>absurd h id) (fun cdv A outer s H vs Q E hr h=>absurd h id)
abbrev qgw:Stmt:=top 63
def qlo:qam ["one", "other"] ["one", "other"] (qag qgw):=fsc
def qmY {f:Addr} {fd:FuncData} (F:Fun K "either" "either" qgw f fd) (T:Txt mg):qaQ P w K mg base CX0 1 f fd ["one", "other"] qoS:=F.ok qlo (fun vs H Q E h=>absurd h id) (fun cdv A outer s H vs Q E hr h=>absurd h id)
abbrev qlr:Stmt:=top 64
def qqD:qam ["one", "other", "joined", "a"] ["one", "other"] (qag qlr):=fsc
def qp0 {f:Addr} {fd:FuncData} (F:Fun K "both" "both" qlr f fd) (T:Txt mg):qaQ P w K mg base CX0 1 f fd ["one", "other"] qoS:=F.ok qqD (fun vs H Q E h=>absurd h id) (fun cdv A outer s H vs Q E hr h=>absurd h id)
abbrev qa6:Stmt:=top 45
def qbx:qam ["family", "one", "k", "other"] ["family", "one", "k"] (qag qa6):=fsc
def qhb (fs:List Nat) (a k:Nat):Option Nat:=fs.find? fun b=>decide (a&&&b=2^k)
def qm9 (K:W.Frag):Sp:=sp3 fun x y z H Q=>∃(p:Addr) (fs:List Nat) (a k:Nat),x = .ref p∧SqL K H p (nV fs)∧y = .int a∧z = .int k∧k≤100∧Q (oV (qhb fs a k)) H
def qcT {f:Addr} {fd:FuncData} (F:Fun K "first_met_by_alone" "first_met_by_alone" qa6 f fd) (T:Txt mg)  : qaQ P w K mg base CX0 1 f fd ["family", "one", "k"] (qm9 K):=by
 have sc:=qbx
 refine F.ok qbx (fun vs H Q E h=>by obtain ⟨_,_,_,rfl,_⟩:=h;rfl) (fun cdv A outer s H vs Q E hr h=>?_)
 obtain ⟨x0,x1,x2,rfl,h⟩:=h
 refine ⟨_,(qac (qaY PassesOwn.never rfl (qaJ (pv 0)) (qan (i:=3) sc.nd rfl (Or.inl rfl)) (qad (qaB (qal (qax (K:=K) rfl hr.units0) (qap qfd (pv 1) (pv 3)) (qap qbE qae (pv 2)) (qas _)) (qad (qai (pv 3))) qak)))
   (qad (qai qbJ))),?_⟩
 refine rdg (σ':=[some x0,some x1,some x2,none]) rfl ?_
 obtain ⟨p,fs,a,k,rfl,hq,rfl,rfl,hk,q⟩:=h
 walk_at "rd"
 refine ⟨⟨_,hq⟩,qfX (fun i σ H'=>∃v,σ=[some (.ref p),some (.int a),some (.int k),v]∧H'=H∧(fs.take i).find? (fun b=>decide (a&&&b=2^k))=none) ⟨none,rfl,rfl,rfl⟩ (fun i σ H' _ ⟨v,_,e,_⟩=>e▸hq) ?_ ?_⟩
 · rintro i b σ H' hb ⟨v,rfl,rfl,h0⟩ N hN
   (try walk_at "rd")
   rw [qbn,qdt]
   refine ⟨qa9 (by omega) (by omega) (by decide) (by decide),qgM (b:=decide (a&&&b=2^k)) (by rw [decide_eq_true_eq];omega) (fun hc=>?_) fun hc=>hN _ _ ⟨_,rfl,rfl,qdW hb h0 hc⟩⟩
   rw [show qhb fs a k=some b from qdV hb h0 hc] at q
   exact q
 · rintro σ H' ⟨v,rfl,rfl,h0⟩
   rw [ydi] at h0
   rw [show qhb fs a k=none from h0] at q
   exact q
abbrev qg2:Stmt:=top 43
def qhv:qam ["family", "one", "missed", "own", "k", "other"] ["family", "one"] (qag qg2):=fsc
def qdN (fs:List Nat) (a:Nat):Option Nat:=fs.find? fun b=>!decide (Fam.mt a b)
def qlD (fs:List Nat) (a:Nat):Option Nat:=(Fam.nms 8 a).find? fun k=>(qhb fs a k).isNone
/-- the rows at ps are (k,other),k through L -/
def Rows (H:Hp) (fs:List Nat) (a:Nat) (L:List Nat) (ps:List Addr):Prop:=ps.length=L.length∧∀(j k:Nat) (r:Addr),L[j]?=some k→ps[j]?=some r→∃o,qhb fs a k=some o∧H r=some (.tup [.int (k:Nat),.int (o:Nat)])
def Rows.mono {H H':Hp} {fs:List Nat} {a:Nat} {L:List Nat} {ps:List Addr} (h:Rows H fs a L ps) (s:qar H H'):Rows H' fs a L ps:=⟨h.1,fun j k r h1 h2=>let ⟨o,e1,e2⟩:=h.2 j k r h1 h2;⟨o,e1,s _ _ e2⟩⟩
def Rows.snoc {H:Hp} {fs:List Nat} {a:Nat} {L:List Nat} {ps:List Addr} {k o:Nat} {r:Addr} (h:Rows H fs a L ps) (e:qhb fs a k=some o) (hr:H r=some (.tup [.int (k:Nat),.int (o:Nat)])):Rows H fs a (L++[k]) (ps++[r]):=by
 refine ⟨by simp [h.1],fun j c r' hj hr'=>?_⟩
 rcases yah j L.length with z | z
 · rw [yfe z] at hj
   rw [yfe (by rw [h.1];exact z)] at hr'
   exact h.2 j c r' hj hr'
 · rw [yfc z] at hj
   rw [yfc (by rw [h.1];exact z),h.1] at hr'
   have hj0:j-L.length=0:=by
     rcases yde (j-L.length) with y | y
     · exact y
     · rw [yek (by simp;omega)] at hj;cases hj
   rw [hj0] at hj hr'
   cases hj
   cases hr'
   exact ⟨o,e,hr⟩
def qgK (K:W.Frag):Sp:=sp2 fun x y H Q=>∃(p:Addr) (fs:List Nat) (a:Nat),x = .ref p∧H p=some (.lst (nV fs))∧y = .int a∧a<256 ∧
 (∀b,qdN fs a=some b→∀t H',H t=none→qar H H'→H' t=some (.tup [.str "misses",.int (b:Nat)])→Q (.ref t) H') ∧
 (qdN fs a=none→∀k,qlD fs a=some k→∀t H',H t=none→qar H H'→H' t=some (.tup [.str "spare",.int (k:Nat)])→Q (.ref t) H') ∧
 (qdN fs a=none→qlD fs a=none→∀(t p':Addr) (ps:List Addr) (H':Hp),H t=none→H p'=none→(∀r∈ps,H r=none)→qar H H'→H' t=some (.tup [.str "least",.ref p'])→H' p'=some (.lst (ps.map V.ref))→Rows H' fs a (Fam.nms 8 a) ps→Q (.ref t) H')
def qlq {f:Addr} {fd:FuncData} (F:Fun K "looked" "looked" qg2 f fd) (T:Txt mg) {f_11:Addr} {fd_11:FuncData} (C_11:Cal P w K mg base "first_missed" 2 ["family", "one"] (qgs K) f_11 fd_11) {f_41:Addr} {fd_41:FuncData} (C_41:Cal P w K mg base "names_in" 1 ["one"] qdX f_41 fd_41) {f_00:Addr} {fd_00:FuncData} (C_00:Cal P w K mg base "first_met_by_alone" 1 ["family", "one", "k"] (qm9 K) f_00 fd_00):qaQ P w K mg base CX0 3 f fd ["family", "one"] (qgK K):=by
 have sc:=qhv
 refine F.ok qhv (fun vs H Q E h=>by obtain ⟨_,_,rfl,_⟩:=h;rfl) (fun cdv A outer s H vs Q E hr h=>?_)
 obtain ⟨x0,x1,rfl,h⟩:=h
 refine ⟨_,(qac (qat (i:=2) sc.nd rfl (Or.inl rfl) (pec C_11 hr (qaa (pv 0) (qaa (pv 1) qab))))
   (qac (qaB (qal qdK (pv 2) qbJ (qas _)) (qad (qai (qa5 (qaa qaj (qaa (pv 2) qab))))) qak)
   (qac (qat (i:=3) sc.nd rfl (Or.inl rfl) (qaH qab))
   (qac (qaY PassesOwn.never rfl (qaJ (pec C_41 hr (qaa (pv 1) qab))) (qan (i:=4) sc.nd rfl (Or.inl rfl)) (qac (qat (i:=5) sc.nd rfl (Or.inl rfl) (pec C_00 hr (qaa (pv 0) (qaa (pv 1) (qaa (pv 4) qab)))))
   (qac (qaB (qal qgh (pv 5) qbJ (qas _)) (qad (qai (qa5 (qaa qaj (qaa (pv 4) qab))))) qak)
   (qad (qb3 (qbf yhd yhe yhf qce (pv 3) (qaa (qa5 (qaa (pv 4) (qaa (pv 5) qab))) qab)))))))
   (qad (qai (qa5 (qaa qaj (qaa (pv 3) qab))))))))),?_⟩
 refine rdg (σ':=[some x0,some x1,none,none,none,none]) rfl ?_
 obtain ⟨p,fs,a,rfl,f1,rfl,ha,q1,q2,q3⟩:=h
 walk_at "rd"
 refine ⟨_,_,rfl,p,fs,a,rfl,SqL.of f1,rfl,?_⟩
 have em:(fs.find? fun b=>!decide (Fam.mt a b))=qdN fs a:=rfl
 rw [em]
 cases hm:qdN fs a with
 | some b =>
   refine ⟨rfl,true,by simp [oV],qez ⟨qaq (by simp),fun t ht=>q1 b hm t _ ht (qar.new ht) qaf⟩⟩
 | none =>
   refine ⟨rfl,false,by simp [oV],qc4 ⟨qaq (by simp),fun p0 hp0=>?_⟩⟩
   generalize g0:upd H p0 _=G0
   have a0:=qao g0
   have t0:=qah g0 hp0
   refine ⟨_,rfl,a,rfl,ha,fun G1 p1 t1 hp1=>⟨p1,rfl,⟨_,SqL.of qaf⟩,?_⟩⟩
   have a0:=t1 _ _ a0
   have n01:=qcs hp1 a0
   generalize g1:upd G1 p1 _=G2
   have a1:=qao g1
   have t2:=(t0.trans t1).trans (qah g1 hp1)
   have a0:=qah g1 hp1 _ _ a0
   have l8:(Fam.nms 8 a).length≤8:=ydc (ygc _ _) (by simp)
   refine qfX (fs:=Fam.nms 8 a) (fun i σ H3=>∃v1 v2 ps,σ=[some (.ref p),some (.int a),some .non,some (.ref p0),v1,v2]∧qar H H3∧H3 p1=some (.lst (nV (Fam.nms 8 a)))∧H3 p0=some (.lst (ps.map V.ref))∧(∀r∈ps,H r=none)∧Rows H3 fs a ((Fam.nms 8 a).take i) ps∧((Fam.nms 8 a).take i).find? (fun k=>(qhb fs a k).isNone)=none) ⟨none,none,[],rfl,t2,a1,a0,fun r hr=>(by cases hr),⟨rfl,fun j k r h=>(by simp at h)⟩,rfl⟩ (fun i σ H3 _ ⟨_,_,_,_,_,e,_⟩=>SqL.of e) ?_ ?_
   · rintro i k σ H3 hk ⟨v1,v2,ps,rfl,s3,b1,b0,fr,rw1,fd⟩ N hN
     have k8:=(Fam.mem_nms.mp (yck hk)).1
     (try walk_at "rd")
     refine ⟨_,_,_,rfl,p,fs,a,k,rfl,SqL.of (s3 _ _ f1),rfl,rfl,by omega,?_⟩
     cases ho:qhb fs a k with
     | none =>
       refine ⟨rfl,?_⟩
       rw [if_pos (show oV none=V.non from rfl)]
       refine ⟨qaq (by simp),fun t ht=>q2 hm k (qdV hk fd (by rw [ho];rfl)) t _ (qau s3 ht) (s3.trans (qar.new ht)) qaf⟩
     | some o =>
       refine ⟨rfl,?_⟩
       rw [if_neg (fun z=>by cases z)]
       refine ⟨qcY b0,qaq (by simp),fun r hr=>?_⟩
       generalize g5:upd H3 r _=G5
       have a5:=qao g5
       have t5:=qah g5 hr
       have n0r:=qcs hr b0
       have n1r:=qcs hr b1
       refine ⟨p0,_,_,rfl,rfl,t5 _ _ b0,qcD (by rw [ycd,rw1.1,yfb];omega),hN _ _ ⟨_,_,ps++[r],rfl,(s3.trans t5).upd hp0,?_,by rw [qaf];simp,fun r' hr'=>?_,?_,qdW hk fd (by rw [ho];rfl)⟩⟩
       · rw [qay (Ne.symm n01)]
         exact t5 _ _ b1
       · rcases yaw.mp hr' with z | z
         · exact fr r' z
         · rw [show r'=r by simpa using z]
           exact qau s3 hr
       · rw [ygr,hk]
         have rw2:Rows (upd G5 p0 (.lst (ps.map V.ref++[V.ref r]))) fs a ((Fam.nms 8 a).take i) ps:=⟨rw1.1,fun j c r' h1 h2=>by
           obtain ⟨o',e1,e2⟩:=rw1.2 j c r' h1 h2
           refine ⟨o',e1,?_⟩
           rw [qay (fun z=>by rw [z,b0] at e2;cases e2)]
           exact t5 _ _ e2⟩
         exact rw2.snoc ho (by rw [qay (Ne.symm n0r)];exact a5)
   · rintro σ H3 ⟨v1,v2,ps,rfl,s3,b1,b0,fr,rw1,fd⟩
     rw [ydi] at rw1 fd
     (try walk_at "rd")
     exact ⟨qaq (by simp),fun t ht=>q3 hm fd t p0 ps _ (qau s3 ht) hp0 fr (s3.trans (qar.new ht)) qaf (qar.new ht _ _ b0) (rw1.mono (qar.new ht))⟩
abbrev qbC:Stmt:=top 48
def qca:qam ["many", "one", "other", "s"] ["many", "one", "other"] (qag qbC):=fsc
def qei (m:Nat) (fs gs:List Nat):Option Nat:=(List.range (2^m)).find? fun s=>!Fam.sayP fs s&&!Fam.sayP gs (Fam.rst m s)
def qpv (K:W.Frag):Sp:=sp3 fun x y z H Q=>∃(m:Nat) (p1 p2:Addr) (fs gs:List Nat),x = .int m∧m≤8∧y = .ref p1∧SqL K H p1 (nV fs)∧z = .ref p2∧SqL K H p2 (nV gs)∧Q (oV (qei m fs gs)) H
def qfK {f:Nat→Bool} {i:Nat} (h0:(List.range i).find? f=none) (hb:f i=false):(List.range (i+1)).find? f=none:=by
 rw [yds,yhp,h0]
 simp [hb]
def qjj {f:Nat→Bool} {n i:Nat} (hi:i<n) (h0:(List.range i).find? f=none) (hb:f i=true):(List.range n).find? f=some i:=by
 obtain ⟨d,rfl⟩:∃d,n=i+(1+d):=⟨n-i-1,by omega⟩
 rw [yct,yhp,h0,Nat.add_comm 1 d,List.range_succ_eq_map]
 simp [hb]
def qen {f:Addr} {fd:FuncData} (F:Fun K "first_left_out" "first_left_out" qbC f fd) (T:Txt mg) {f_67:Addr} {fd_67:FuncData} (C_67:Cal P w K mg base "says" 2 ["family", "one"] (qfe K) f_67 fd_67) {f_66:Addr} {fd_66:FuncData} (C_66:Cal P w K mg base "rest" 1 ["many", "one"] qnf f_66 fd_66):qaQ P w K mg base CX0 3 f fd ["many", "one", "other"] (qpv K):=by
 have sc:=qca
 refine F.ok qca (fun vs H Q E h=>by obtain ⟨_,_,_,rfl,_⟩:=h;rfl) (fun cdv A outer s H vs Q E hr h=>?_)
 obtain ⟨x0,x1,x2,rfl,h⟩:=h
 refine ⟨_,(qac (qaY PassesOwn.never rfl (qaI (by rfl) T.n_range (qaa (qap qbE qae (pv 0)) qab)) (qan (i:=3) sc.nd rfl (Or.inl rfl)) (qad (qaB (PW.pt (qey (qbD (qbg (pec C_67 hr (qaa (pv 1) (qaa (pv 3) qab))))) (qdy (qbD (qbg (pec C_67 hr (qaa (pv 2) (qaa (pec C_66 hr (qaa (pv 0) (qaa (pv 3) qab))) qab)))))))) (qad (qai (pv 3))) qak)))
   (qad (qai qbJ))),?_⟩
 refine rdg (σ':=[some x0,some x1,some x2,none]) rfl ?_
 obtain ⟨m,p1,p2,fs,gs,rfl,hm,rfl,h1,rfl,h2,q⟩:=h
 walk_at "rd"
 have pp:=yai m
 have p8:2^m≤256:=yag (n:=2) (by decide) hm
 rw [qbn]
 refine ⟨qa9 (by omega) (by omega) (by decide) (by decide),by omega,by omega,?_⟩
 rw [yfg]
 refine qdb (fun i σ H3=>∃v,σ=[some (.int m),some (.ref p1),some (.ref p2),v]∧H3=H∧(List.range i).find? (fun s=>!Fam.sayP fs s&&!Fam.sayP gs (Fam.rst m s))=none) ⟨none,rfl,rfl,rfl⟩ ?_ ?_
 · rintro i σ H3 hi ⟨v,rfl,rfl,h0⟩ N hN
   (try walk_at "rd")
   refine ⟨_,_,rfl,p1,fs,i,rfl,h1,rfl,?_⟩
   (try walk_at "rd")
   cases hs:Fam.sayP fs i with
   | true =>
     rw [if_neg (by decide)]
     exact hN _ _ ⟨_,rfl,rfl,qfK h0 (by rw [hs];rfl)⟩
   | false =>
     rw [if_pos rfl]
     refine ⟨_,_,rfl,m,i,rfl,rfl,hm,hi,?_⟩
     refine ⟨_,_,rfl,p2,gs,_,rfl,h2,rfl,?_⟩
     (try walk_at "rd")
     cases hg:Fam.sayP gs (Fam.rst m i) with
     | true=>exact hN _ _ ⟨_,rfl,rfl,qfK h0 (by rw [hs,hg];rfl)⟩
     | false =>
       rw [show qei m fs gs=some i from qjj hi h0 (by rw [hs,hg];rfl)] at q
       exact q
 · rintro σ H3 ⟨v,rfl,rfl,h0⟩
   rw [show qei m fs gs=none from h0] at q
   exact q
abbrev qkZ:Stmt:=top 47
def ql8:qam ["many", "one", "other", "a", "b", "s"] ["many", "one", "other"] (qag qkZ):=fsc
def qiV (gs:List Nat) (a:Nat):Option Nat:=gs.find? fun b=>!decide (Fam.mt a b)
def qhn (fs gs:List Nat):Option Nat:=fs.find? fun a=>(qiV gs a).isSome
def qqA (m:Nat) (fs gs:List Nat):List V:=match qhn fs gs with
 | some a=>[.str "apart",.int (a:Nat),oV (qiV gs a)]
 | none=>match qei m fs gs with
   | some s=>[.str "neither",.int (s:Nat)]
   | none=>[.str "each"]
def qmc (K:W.Frag):Sp:=sp3 fun x y z H Q=>∃(m:Nat) (p1 p2:Addr) (fs gs:List Nat),x = .int m∧m≤8∧y = .ref p1∧SqL K H p1 (nV fs)∧z = .ref p2∧SqL K H p2 (nV gs)∧∀t H',H t=none→qar H H'→H' t=some (.tup (qqA m fs gs))→Q (.ref t) H'
def qpN {f:Addr} {fd:FuncData} (F:Fun K "held" "held" qkZ f fd) (T:Txt mg) {f_04:Addr} {fd_04:FuncData} (C_04:Cal P w K mg base "first_left_out" 3 ["many", "one", "other"] (qpv K) f_04 fd_04) {f_11:Addr} {fd_11:FuncData} (C_11:Cal P w K mg base "first_missed" 2 ["family", "one"] (qgs K) f_11 fd_11):qaQ P w K mg base CX0 4 f fd ["many", "one", "other"] (qmc K):=by
 have sc:=ql8
 refine F.ok ql8 (fun vs H Q E h=>by obtain ⟨_,_,_,rfl,_⟩:=h;rfl) (fun cdv A outer s H vs Q E hr h=>?_)
 obtain ⟨x0,x1,x2,rfl,h⟩:=h
 refine ⟨_,(qac (qaY PassesOwn.never rfl (qaJ (pv 1)) (qan (i:=3) sc.nd rfl (Or.inl rfl)) (qac (qat (i:=4) sc.nd rfl (Or.inl rfl) (pec C_11 hr (qaa (pv 2) (qaa (pv 3) qab))))
   (qad (qaB (qal qdK (pv 4) qbJ (qas _)) (qad (qai (qa5 (qaa qaj (qaa (pv 3) (qaa (pv 4) qab)))))) qak))))
   (qac (qat (i:=5) sc.nd rfl (Or.inl rfl) (pec C_04 hr (qaa (pv 0) (qaa (pv 1) (qaa (pv 2) qab)))))
   (qac (qaB (qal qdK (pv 5) qbJ (qas _)) (qad (qai (qa5 (qaa qaj (qaa (pv 5) qab))))) qak)
   (qad (qai (qa5 (qaa qaj qab))))))),?_⟩
 refine rdg (σ':=[some x0,some x1,some x2,none,none,none]) rfl ?_
 obtain ⟨m,p1,p2,fs,gs,rfl,hm,rfl,h1,rfl,h2,q⟩:=h
 walk_at "rd"
 refine ⟨⟨_,h1⟩,qfX (fs:=fs) (fun i σ H'=>∃v1 v2,σ=[some (.int m),some (.ref p1),some (.ref p2),v1,v2,none]∧H'=H∧(fs.take i).find? (fun a=>(qiV gs a).isSome)=none) ⟨none,none,rfl,rfl,rfl⟩ (fun i σ H' _ ⟨_,_,_,e,_⟩=>e▸h1) ?_ ?_⟩
 · rintro i x σ H' hx ⟨v1,v2,rfl,rfl,h0⟩ N hN
   (try walk_at "rd")
   refine ⟨_,_,rfl,p2,gs,x,rfl,h2,rfl,?_⟩
   rw [show (gs.find? fun b=>!decide (Fam.mt x b))=qiV gs x from rfl]
   cases hb:qiV gs x with
   | none=>exact ⟨rfl,false,by simp [oV],qc4 (hN _ _ ⟨_,_,rfl,rfl,qdW hx h0 (by rw [hb];rfl)⟩)⟩
   | some b =>
     refine ⟨rfl,true,by simp [oV],qez ⟨qaq (by simp),fun t ht=>q t _ ht (qar.new ht) ?_⟩⟩
     rw [qaf]
     unfold qqA
     rw [show qhn fs gs=some x from qdV hx h0 (by rw [hb];rfl)]
     dsimp only
     rw [hb]
 · rintro σ H' ⟨v1,v2,rfl,rfl,h0⟩
   rw [ydi] at h0
   (try walk_at "rd")
   refine ⟨_,_,_,rfl,m,p1,p2,fs,gs,rfl,hm,rfl,h1,rfl,h2,?_⟩
   (try walk_at "rd")
   cases hs:qei m fs gs with
   | none =>
     refine ⟨rfl,false,by simp [oV],qc4 ⟨qaq (by simp),fun t ht=>q t _ ht (qar.new ht) ?_⟩⟩
     rw [qaf]
     unfold qqA
     rw [show qhn fs gs=none from h0,hs]
   | some s =>
     refine ⟨rfl,true,by simp [oV],qez ⟨qaq (by simp),fun t ht=>q t _ ht (qar.new ht) ?_⟩⟩
     rw [qaf]
     unfold qqA
     rw [show qhn fs gs=none from h0,hs]
     rfl
abbrev qea:Stmt:=top 50
def qff:qam ["many", "family"] ["many", "family"] (qag qea):=fsc
def qdS (K:W.Frag):Sp:=sp2 fun x y H Q=>∃(m:Nat) (p:Addr) (fs:List Nat),x = .int m∧m≤8∧y = .ref p∧H p=some (.lst (nV fs))∧∀H' p',H p'=none→qar H H'→H' p'=some (.lst (bV (tab (2^m) (Fam.sayP fs))))→Q (.ref p') H'
def qiY {f:Addr} {fd:FuncData} (F:Fun K "table_of" "table_of" qea f fd) (T:Txt mg) {f_67:Addr} {fd_67:FuncData} (C_67:Cal P w K mg base "says" 2 ["family", "one"] (qfe K) f_67 fd_67):qaQ P w K mg base CX0 3 f fd ["many", "family"] (qdS K):=by
 have sc:=qff
 refine F.ok qff (fun vs H Q E h=>by obtain ⟨_,_,rfl,_⟩:=h;rfl) (fun cdv A outer s H vs Q E hr h=>?_)
 obtain ⟨x0,x1,rfl,h⟩:=h
 refine ⟨_,(qad (qai (qaG (N:=["s", "family"]) (nt:=1) (caps:=[1]) qaC rfl (qaI (by rfl) T.n_range (qaa (qap qbE qae (pv 0)) qab)) (fun _ _ _ _ _=>(qan (i:=0) (show List.Nodup (α:=Str) ["s", "family"] from by decide +kernel) rfl (Or.inl rfl))) qaE (fun _ _ _ _ _=>qaF) (fun _ _ _ _ _=>(pec C_67 hr (qaa (pv 1) (qaa (pv 0) qab))))))),?_⟩
 refine rdg (σ':=[some x0,some x1]) rfl ?_
 obtain ⟨m,p,fs,rfl,hm,rfl,f1,q⟩:=h
 walk_at "rd"
 have p8:=yag (n:=2) (by decide) hm;rw [show 2^8=256 from rfl] at p8
 have pp:=yai m
 rw [qbn]
 refine ⟨qa9 (by omega) (by omega) (by decide) (by decide),by omega,by omega,?_⟩
 rw [yfg]
 refine qdf (fun _=>true) (fun k => .bl (Fam.sayP fs k)) (by omega) (fun k hk H1 sm R R' r1 r2=>?_) fun H1 p1 sm hp=>?_
 · (try walk_at "rd")
   exact ⟨_,_,rfl,p,fs,k,rfl,SqL.of (sm _ _ f1),rfl,r1 rfl _ (qar.refl _)⟩
 · rw [qqe]
   exact q _ p1 (qau sm hp) (sm.trans (qar.new hp)) qaf
abbrev qe1:Stmt:=top 51
def qgm:qam ["many", "family"] ["many", "family"] (qag qe1):=fsc
def qj7 (K:W.Frag):Sp:=sp2 fun x y H Q=>∃(m:Nat) (p:Addr) (fs:List Nat),x = .int m∧m≤5∧y = .ref p∧H p=some (.lst (nV fs))∧∀H' p',H p'=none→qar H H'→H' p'=some (.lst (nV (Fam.rsts m (Fam.hits m fs))))→Q (.ref p') H'
def qu7 {m:Nat} (hm:m≤8):2^m≤256:=yag (n:=2) (by decide) hm
def qny (m:Nat) (fs:List Nat):(Fam.hits m fs).length≤2^m:=ydc (Fam.pick_len _ _) (by simp)
def qku {f:Addr} {fd:FuncData} (F:Fun K "noes_by" "noes_by" qe1 f fd) (T:Txt mg) {f_63:Addr} {fd_63:FuncData} (C_63:Cal P w K mg base "rests" 2 ["many", "family"] (qi6 K) f_63 fd_63) {f_68:Addr} {fd_68:FuncData} (C_68:Cal P w K mg base "hits" 3 ["many", "family"] (qmB K) f_68 fd_68):qaQ P w K mg base CX0 4 f fd ["many", "family"] (qj7 K):=by
 have sc:=qgm
 refine F.ok qgm (fun vs H Q E h=>by obtain ⟨_,_,rfl,_⟩:=h;rfl) (fun cdv A outer s H vs Q E hr h=>?_)
 obtain ⟨x0,x1,rfl,h⟩:=h
 refine ⟨_,(qad (qai (pec C_63 hr (qaa (pv 0) (qaa (pec C_68 hr (qaa (pv 0) (qaa (pv 1) qab))) qab))))),?_⟩
 refine rdg (σ':=[some x0,some x1]) rfl ?_
 obtain ⟨m,p,fs,rfl,hm,rfl,f1,q⟩:=h
 walk_at "rd"
 have p8:2^m≤32:=yag (n:=2) (by decide) hm
 have pp:=yai m
 have hl:=qny m fs
 refine ⟨_,_,rfl,m,p,fs,rfl,by omega,rfl,f1,fun G1 p1 hp1 t1 a1=>?_⟩
 refine ⟨_,_,rfl,m,p1,_,rfl,by omega,rfl,SqL.of a1,Fam.hits_rise m fs,Fam.hits_lt,by omega,fun G2 p2 hp2 t2 a2=>?_⟩
 exact q _ p2 (qau t1 hp2) (t1.trans t2) a2
abbrev qbG:Stmt:=top 55
def qco:qam ["many", "table", "x", "y", "x_alone", "y_alone", "s"] ["many", "table", "x", "y"] (qag qbG):=fsc
def qr7 {A B:Prop} [Decidable (oV none=V.non)] (h:A):if oV none=V.non then A else B:=by
 rw [if_pos (show oV none=V.non from rfl)]
 exact h
def qrq {b:Nat} {A B:Prop} [Decidable (oV (some b)=V.non)] (h:B):if oV (some b)=V.non then A else B:=by
 rw [if_neg (fun z=>by cases z)]
 exact h
def qh3 (K:W.Frag):Sp:=sp4 fun u v x y H Q=>∃(m:Nat) (p:Addr) (f:Nat→Bool) (i j:Nat),u = .int m∧m≤8∧v = .ref p∧SqL K H p (bV (tab (2^m) f))∧x = .int i∧i<m∧y = .int j∧j<m∧Q (oV (Fam.part m f i j)) H
def qsW {s x y:Nat}:decide (Fam.mt s (2^x|||2^y))=(s.testBit x||s.testBit y):=by
 rw [yay,decide_eq_true_eq,Fam.mt_iff,ycy]
 constructor
 · rintro ⟨k,h1,h2⟩
   rw [yao,yak,yak,ycy,decide_eq_true_eq,decide_eq_true_eq] at h2
   rcases h2 with rfl | rfl
   · exact .inl h1
   · exact .inr h1
 · rintro (h | h)
   · exact ⟨x,h,by simp [yao,yak]⟩
   · exact ⟨y,h,by simp [yao,yak]⟩
def qeQ {f:Addr} {fd:FuncData} (F:Fun K "first_parting" "first_parting" qbG f fd) (T:Txt mg) {f_61:Addr} {fd_61:FuncData} (C_61:Cal P w K mg base "meets" 1 ["one", "other"] qiE f_61 fd_61):qaQ P w K mg base CX0 2 f fd ["many", "table", "x", "y"] (qh3 K):=by
 have sc:=qco
 refine F.ok qco (fun vs H Q E h=>by obtain ⟨_,_,_,_,rfl,_⟩:=h;rfl) (fun cdv A outer s H vs Q E hr h=>?_)
 obtain ⟨x0,x1,x2,x3,rfl,h⟩:=h
 refine ⟨_,(qac (qat (i:=4) sc.nd rfl (Or.inl rfl) (qap qbE qae (pv 2)))
   (qac (qat (i:=5) sc.nd rfl (Or.inl rfl) (qap qbE qae (pv 3)))
   (qac (qaY PassesOwn.never rfl (qaI (by rfl) T.n_range (qaa (qap qbE qae (pv 0)) qab)) (qan (i:=6) sc.nd rfl (Or.inl rfl)) (qad (qaB (PW.pt (qey (qbD (qbg (pec C_61 hr (qaa (pv 6) (qaa (qap qgL (pv 4) (pv 5)) qab))))) (qey (qbg (qaA (qaS (K:=K) rfl) (pv 1) (qap qgL (pv 6) (pv 4)) (fun _ _=>rfl))) (qdy (qbD (qbg (qaA (qaS (K:=K) rfl) (pv 1) (qap qgL (pv 6) (pv 5)) (fun _ _=>rfl)))))))) (qad (qai (pv 6))) qak)))
   (qad (qai qbJ))))),?_⟩
 refine rdg (σ':=[some x0,some x1,some x2,some x3,none,none,none]) rfl ?_
 obtain ⟨m,p,f,x,y,rfl,hm,rfl,hq,rfl,hx,rfl,hy,q⟩:=h
 walk_at "rd"
 have pp:=yai m
 have p8:2^m≤256:=yag (n:=2) (by decide) hm
 have px:2^x<2^m:=ybr (by decide) hx
 have py:2^y<2^m:=ybr (by decide) hy
 rw [qbn,qbn,qbn]
 refine ⟨qa9 (by omega) (by omega) (by decide) (by decide),qa9 (by omega) (by omega) (by decide) (by decide),qa9 (by omega) (by omega) (by decide) (by decide),by omega,by omega,?_⟩
 rw [yfg]
 refine qdb (fun i σ H3=>∃v,σ=[some (.int m),some (.ref p),some (.int x),some (.int y),some (.int ((2^x:Nat))),some (.int ((2^y:Nat))),v]∧H3=H∧(List.range i).find? (Fam.partP f x y)=none) ⟨none,rfl,rfl,rfl⟩ ?_ ?_
 · rintro i σ H3 hi ⟨v,rfl,rfl,h0⟩ N hN
   (try walk_at "rd")
   rw [qdF,qdF,qdF]
   refine ⟨_,_,rfl,i,_,rfl,rfl,?_⟩
   rw [qsW]
   (try walk_at "rd")
   cases hs:(i.testBit x||i.testBit y) with
   | true =>
     rw [if_neg (by decide)]
     refine hN _ _ ⟨_,rfl,rfl,qfK h0 ?_⟩
     unfold Fam.partP
     cases e1:i.testBit x<;>cases e2:i.testBit y<;>simp_all
   | false =>
     rw [if_pos rfl]
     rw [Bool.or_eq_false_iff] at hs
     refine qaP hq (qg6 (ybq hi px)) ⟨_,rfl,qlu (fun h1=>?_) fun h1=>hN _ _ ⟨_,rfl,rfl,qfK h0 (by unfold Fam.partP;simp [h1])⟩⟩
     refine qaP hq (qg6 (ybq hi py)) ⟨_,rfl,?_⟩
     cases h2:f (i|||2^y) with
     | true =>
       rw [if_neg (by decide)]
       refine hN _ _ ⟨_,rfl,rfl,qfK h0 ?_⟩
       unfold Fam.partP
       simp [h2]
     | false =>
       rw [if_pos rfl]
       rw [show Fam.part m f x y=some i from qjj hi h0 (by unfold Fam.partP;rw [hs.1,hs.2,h1,h2];rfl)] at q
       exact q
 · rintro σ H3 ⟨v,rfl,rfl,h0⟩
   rw [show Fam.part m f x y=none from h0] at q
   exact q
abbrev qcf:Stmt:=top 54
def qdg:qam ["many", "table", "x", "y", "s", "t"] ["many", "table", "x", "y"] (qag qcf):=fsc
def qoy (m:Nat) (f:Nat→Bool) (x y:Nat):List V:=match Fam.part m f x y,Fam.part m f y x with
 | none,none=>[.str "alike"]
 | some s,none=>[.str "heavier",.int (s:Nat)]
 | none,some t=>[.str "lighter",.int (t:Nat)]
 | some s,some t=>[.str "apart",.int (s:Nat),.int (t:Nat)]
def eqS {K:W.Frag} {z z':Str} {H:Hp} {Q:VK} (c:Bool) (h:decide (z=z')=c) (q:Q (.bl c) H):qnV K (.str z) (.str z') H Q:=qoU.mpr (h▸q)
def neS {K:W.Frag} {z z':Str} {H:Hp} {Q:VK} (c:Bool) (h:(!decide (z=z'))=c) (q:Q (.bl c) H):qnm K (.str z) (.str z') H Q:=qpq.mpr (h▸q)
def qcB (K:W.Frag):Sp:=sp4 fun u v x y H Q=>∃(m:Nat) (p:Addr) (f:Nat→Bool) (i j:Nat),u = .int m∧m≤8∧v = .ref p∧SqL K H p (bV (tab (2^m) f))∧x = .int i∧i<m∧y = .int j∧j<m∧∀t H',H t=none→qar H H'→H' t=some (.tup (qoy m f i j))→Q (.ref t) H'
def qf4 {f:Addr} {fd:FuncData} (F:Fun K "compared_in" "compared_in" qcf f fd) (T:Txt mg) {f_07:Addr} {fd_07:FuncData} (C_07:Cal P w K mg base "first_parting" 2 ["many", "table", "x", "y"] (qh3 K) f_07 fd_07):qaQ P w K mg base CX0 3 f fd ["many", "table", "x", "y"] (qcB K):=by
 have sc:=qdg
 refine F.ok qdg (fun vs H Q E h=>by obtain ⟨_,_,_,_,rfl,_⟩:=h;rfl) (fun cdv A outer s H vs Q E hr h=>?_)
 obtain ⟨x0,x1,x2,x3,rfl,h⟩:=h
 refine ⟨_,(qac (qat (i:=4) sc.nd rfl (Or.inl rfl) (pec C_07 hr (qaa (pv 0) (qaa (pv 1) (qaa (pv 2) (qaa (pv 3) qab))))))
   (qac (qat (i:=5) sc.nd rfl (Or.inl rfl) (pec C_07 hr (qaa (pv 0) (qaa (pv 1) (qaa (pv 3) (qaa (pv 2) qab))))))
   (qac (qaB (PW.pt (qey (qal qgh (pv 4) qbJ (qas _)) (qdy (qal qgh (pv 5) qbJ (qas _))))) (qad (qai (qa5 (qaa qaj qab)))) qak)
   (qac (qaB (qal qgh (pv 5) qbJ (qas _)) (qad (qai (qa5 (qaa qaj (qaa (pv 4) qab))))) qak)
   (qac (qaB (qal qgh (pv 4) qbJ (qas _)) (qad (qai (qa5 (qaa qaj (qaa (pv 5) qab))))) qak)
   (qad (qai (qa5 (qaa qaj (qaa (pv 4) (qaa (pv 5) qab))))))))))),?_⟩
 refine rdg (σ':=[some x0,some x1,some x2,some x3,none,none]) rfl ?_
 obtain ⟨m,p,f,x,y,rfl,hm,rfl,hq,rfl,hx,rfl,hy,q⟩:=h
 walk_at "rd"
 refine ⟨_,_,_,_,rfl,m,p,f,x,y,rfl,hm,rfl,hq,rfl,hx,rfl,hy,?_⟩
 (try walk_at "rd")
 refine ⟨_,_,_,_,rfl,m,p,f,y,x,rfl,hm,rfl,hq,rfl,hy,rfl,hx,?_⟩
 (try walk_at "rd")
 have fin:∀t (L:List V),H t=none→L=qoy m f x y→Q (.ref t) (upd H t (.tup L)):=fun t L ht e=>q t _ ht (qar.new ht) (by rw [qaf,e])
 unfold qoy at fin
 cases h1:Fam.part m f x y with
 | none =>
   cases h2:Fam.part m f y x with
   | none =>
     rw [h1,h2] at fin
     exact ⟨rfl,qr7 ⟨rfl,qr7 ⟨qaq (by simp),fun t ht=>fin t _ ht rfl⟩⟩⟩
   | some t2 =>
     rw [h1,h2] at fin
     exact ⟨rfl,qr7 ⟨rfl,qrq ⟨rfl,qrq ⟨rfl,qr7 ⟨qaq (by simp),fun t ht=>fin t _ ht rfl⟩⟩⟩⟩⟩
 | some s1 =>
   cases h2:Fam.part m f y x with
   | none =>
     rw [h1,h2] at fin
     exact ⟨rfl,qrq ⟨rfl,qr7 ⟨qaq (by simp),fun t ht=>fin t _ ht rfl⟩⟩⟩
   | some t2 =>
     rw [h1,h2] at fin
     exact ⟨rfl,qrq ⟨rfl,qrq ⟨rfl,qrq ⟨qaq (by simp),fun t ht=>fin t _ ht rfl⟩⟩⟩⟩
abbrev qeu:Stmt:=top 53
def qfC:qam ["many", "family", "x", "y"] ["many", "family", "x", "y"] (qag qeu):=fsc
def qek (K:W.Frag):Sp:=sp4 fun u v x y H Q=>∃(m:Nat) (p:Addr) (fs:List Nat) (i j:Nat),u = .int m∧m≤8∧v = .ref p∧H p=some (.lst (nV fs))∧x = .int i∧i<m∧y = .int j∧j<m∧∀t H',H t=none→qar H H'→H' t=some (.tup (qoy m (Fam.sayP fs) i j))→Q (.ref t) H'
def qjg {f:Addr} {fd:FuncData} (F:Fun K "compared" "compared" qeu f fd) (T:Txt mg) {f_18:Addr} {fd_18:FuncData} (C_18:Cal P w K mg base "compared_in" 3 ["many", "table", "x", "y"] (qcB K) f_18 fd_18) {f_44:Addr} {fd_44:FuncData} (C_44:Cal P w K mg base "table_of" 3 ["many", "family"] (qdS K) f_44 fd_44):qaQ P w K mg base CX0 4 f fd ["many", "family", "x", "y"] (qek K):=by
 have sc:=qfC
 refine F.ok qfC (fun vs H Q E h=>by obtain ⟨_,_,_,_,rfl,_⟩:=h;rfl) (fun cdv A outer s H vs Q E hr h=>?_)
 obtain ⟨x0,x1,x2,x3,rfl,h⟩:=h
 refine ⟨_,(qad (qai (pec C_18 hr (qaa (pv 0) (qaa (pec C_44 hr (qaa (pv 0) (qaa (pv 1) qab))) (qaa (pv 2) (qaa (pv 3) qab))))))),?_⟩
 refine rdg (σ':=[some x0,some x1,some x2,some x3]) rfl ?_
 obtain ⟨m,p,fs,x,y,rfl,hm,rfl,f1,rfl,hx,rfl,hy,q⟩:=h
 walk_at "rd"
 refine ⟨_,_,rfl,m,p,fs,rfl,hm,rfl,f1,fun G1 p1 hp1 t1 a1=>?_⟩
 (try walk_at "rd")
 refine ⟨_,_,_,_,rfl,m,p1,Fam.sayP fs,x,y,rfl,hm,rfl,SqL.of a1,rfl,hx,rfl,hy,fun t H' ht s at1=>?_⟩
 exact q t _ (qau t1 ht) (t1.trans s) at1
abbrev qdj:Stmt:=top 57
def qeA:qam ["many", "table", "k"] ["many", "table", "k"] (qag qdj):=fsc
def qjv (K:W.Frag):Sp:=sp3 fun x y z H Q=>∃(m:Nat) (p:Addr) (f:Nat→Bool) (k:Nat),x = .int m∧m≤8∧y = .ref p∧H p=some (.lst (bV (tab (2^m) f)))∧z = .int k∧k<m∧∀H',qar H H'→Q (.int (Fam.trn m f k:Nat)) H'
def qhr {f:Addr} {fd:FuncData} (F:Fun K "turned_by" "turned_by" qdj f fd) (T:Txt mg)  : qaQ P w K mg base CX0 1 f fd ["many", "table", "k"] (qjv K):=by
 have sc:=qeA
 refine F.ok qeA (fun vs H Q E h=>by obtain ⟨_,_,_,rfl,_⟩:=h;rfl) (fun cdv A outer s H vs Q E hr h=>?_)
 obtain ⟨x0,x1,x2,rfl,h⟩:=h
 refine ⟨_,(qad (qai (qav (qaO (K:=K) rfl) (by rfl) T.n_len PySem.boot_len (qaa (qaG (N:=["s", "table", "k"]) (nt:=1) (caps:=[1,2]) qaC rfl (qaI (by rfl) T.n_range (qaa (qap qbE qae (pv 0)) qab)) (fun _ _ _ _ _=>(qan (i:=0) (show List.Nodup (α:=Str) ["s", "table", "k"] from by decide +kernel) rfl (Or.inl rfl))) qaE (fun _ _ _ _ _=>(qfj (PW.pt (qey (qbD (qbg (qaA (qaS (K:=K) rfl) (pv 1) (pv 0) (fun _ _=>rfl)))) (qdy (qbg (qaA (qaS (K:=K) rfl) (pv 1) (qap qgL (pv 0) (qap qbE qae (pv 2))) (fun _ _=>rfl)))))))) (fun _ _ _ _ _=>(pv 0))) qab)))),?_⟩
 refine rdg (σ':=[some x0,some x1,some x2]) rfl ?_
 obtain ⟨m,p,f,k,rfl,hm,rfl,f1,rfl,hk,q⟩:=h
 walk_at "rd"
 have pp:=yai m
 have p8:2^m≤256:=yag (n:=2) (by decide) hm
 have pk:2^k<2^m:=ybr (by decide) hk
 rw [qbn]
 refine ⟨qa9 (by omega) (by omega) (by decide) (by decide),by omega,by omega,?_⟩
 rw [yfg]
 refine qdf (fun s=>!f s&&f (s|||2^k)) (fun s => .int (s:Nat)) (by omega) (fun s hs H1 sm R R' r1 r2=>?_) fun H1 p1 sm hp=>?_
 · (try walk_at "rd")
   refine qaP (SqL.of (sm _ _ f1)) (qg6 hs) ⟨_,rfl,?_⟩
   (try walk_at "rd")
   cases h1:f s with
   | true =>
     rw [if_neg (by decide)]
     exact r2 (by rw [h1];rfl) _ (qar.refl _)
   | false =>
     rw [if_pos rfl]
     rw [qbn,qdF]
     refine ⟨qa9 (by omega) (by omega) (by decide) (by decide),qaP (SqL.of (sm _ _ f1)) (qg6 (ybq hs pk)) ⟨_,rfl,qlu (fun hc=>r1 (by rw [h1,hc];rfl) _ (qar.refl _)) fun hc=>r2 (by rw [h1,hc];rfl) _ (qar.refl _)⟩⟩
 · refine ⟨p1,rfl,_,.inl (SqL.of qaf),?_⟩
   rw [ycd]
   exact q _ (sm.trans (qar.new hp))
abbrev qiC:Stmt:=top 56
def qj0:qam ["many", "family", "table"] ["many", "family"] (qag qiC):=fsc
def qgN (K:W.Frag):Sp:=sp2 fun x y H Q=>∃(m:Nat) (p:Addr) (fs:List Nat),x = .int m∧m≤8∧y = .ref p∧H p=some (.lst (nV fs))∧∀H' p',H p'=none→qar H H'→H' p'=some (.lst (nV (Fam.trns m (Fam.sayP fs))))→Q (.ref p') H'
def qoe {f:Addr} {fd:FuncData} (F:Fun K "turns" "turns" qiC f fd) (T:Txt mg) {f_44:Addr} {fd_44:FuncData} (C_44:Cal P w K mg base "table_of" 3 ["many", "family"] (qdS K) f_44 fd_44) {f_35:Addr} {fd_35:FuncData} (C_35:Cal P w K mg base "turned_by" 1 ["many", "table", "k"] (qjv K) f_35 fd_35):qaQ P w K mg base CX0 4 f fd ["many", "family"] (qgN K):=by
 have sc:=qj0
 refine F.ok qj0 (fun vs H Q E h=>by obtain ⟨_,_,rfl,_⟩:=h;rfl) (fun cdv A outer s H vs Q E hr h=>?_)
 obtain ⟨x0,x1,rfl,h⟩:=h
 refine ⟨_,(qac (qat (i:=2) sc.nd rfl (Or.inr rfl) (pec C_44 hr (qaa (pv 0) (qaa (pv 1) qab))))
   (qad (qai (qaG (N:=["k", "many", "table"]) (nt:=1) (caps:=[0,2]) qaC rfl (qaI (by rfl) T.n_range (qaa (pv 0) qab)) (fun _ _ _ _ _=>(qan (i:=0) (show List.Nodup (α:=Str) ["k", "many", "table"] from by decide +kernel) rfl (Or.inl rfl))) qaE (fun _ _ _ _ _=>qaF) (fun _ _ _ _ _=>(pec C_35 hr (qaa (pv 1) (qaa (pv 2) (qaa (pv 0) qab))))))))),?_⟩
 refine rdg (σ':=[some x0,some x1,none]) rfl ?_
 obtain ⟨m,p,fs,rfl,hm,rfl,f1,q⟩:=h
 walk_at "rd"
 refine ⟨_,_,rfl,m,p,fs,rfl,hm,rfl,f1,fun G1 p1 hp1 t1 a1=>?_⟩
 (try walk_at "rd")
 refine ⟨by omega,by omega,?_⟩
 rw [yfg]
 refine qdf (fun _=>true) (fun k => .int (Fam.trn m (Fam.sayP fs) k:Nat)) (by omega) (fun k hk H1 sm R R' r1 r2=>?_) fun H1 p2 sm hp=>?_
 · (try walk_at "rd")
   exact ⟨_,_,_,rfl,m,p1,_,k,rfl,hm,rfl,sm _ _ a1,rfl,hk,fun H2 s2=>r1 rfl _ s2⟩
 have e:((List.range m).filter fun _=>true).map (fun k=>V.int (Fam.trn m (Fam.sayP fs) k:Nat))=nV (Fam.trns m (Fam.sayP fs)):=by
   rw [ygf.mpr fun _ _=>rfl]
   simp [Fam.trns]
 rw [e]
 have t2:=t1.trans sm
 exact q _ p2 (qau t2 hp) (t2.trans (qar.new hp)) qaf
abbrev qbY:Stmt:=top 35
def qcG:qam ["numbers"] ["numbers"] (qag qbY):=fsc
def qsi (ns:List Nat):Str:=_root_.PySem.Txt.join " " (ns.map fun n=>Str.ofString (toString ((n:Nat):Int)))
def qgZ:∀n,n≤256→(Str.ofString (toString ((n:Nat):Int))).length≤3:=by
 have:∀n,n<257→(Str.ofString (toString ((n:Nat):Int))).length≤3:=by decide +kernel
 exact fun n h=>this n (by omega)
def qfF (K:W.Frag):Sp:=sp1 fun x H Q=>∃(p:Addr) (ns:List Nat),x = .ref p∧H p=some (.lst (nV ns))∧ns.length≤9∧(∀n∈ns,n≤256)∧∀H',qar H H'→Q (.str (qsi ns)) H'
def qfm {f:Addr} {fd:FuncData} (F:Fun K "show_numbers" "show_numbers" qbY f fd) (T:Txt mg)  : qaQ P w K mg base CX0 1 f fd ["numbers"] (qfF K):=by
 have sc:=qcG
 refine F.ok qcG (fun vs H Q E h=>by obtain ⟨_,rfl,_⟩:=h;rfl) (fun cdv A outer s H vs Q E hr h=>?_)
 obtain ⟨x0,rfl,h⟩:=h
 refine ⟨_,(qad (qai (qbf yhg yhh yhi (qaM (K:=K) rfl) qaj (qaa (qaG (N:=["number"]) (nt:=1) (caps:=[]) qaC rfl (qaJ (pv 0)) (fun _ _ _ _ _=>(qan (i:=0) (show List.Nodup (α:=Str) ["number"] from by decide +kernel) rfl (Or.inl rfl))) qaE (fun _ _ _ _ _=>qaF) (fun _ _ _ _ _=>(qaT qcV (by rfl) T.n_str PyProof.Rows.boot_str (qaa (pv 0) qab)))) qab)))),?_⟩
 refine rdg (σ':=[some x0]) rfl ?_
 obtain ⟨p,ns,rfl,f1,hl,hn,q⟩:=h
 walk_at "rd"
 refine ⟨rfl,⟨_,SqL.of f1⟩,qbQ (fs:=ns) (fun _=>true) (fun n => .str (Str.ofString (toString ((n:Nat):Int)))) (SqL.of f1) (by omega) (fun n hm H2 s2 R R' r1 r2=>?_) fun H2 p3 s2 hp3=>?_⟩
 · (try walk_at "rd")
   have:=hn n hm
   exact ⟨by rw [yhq];exact ybl (yhr n) (by omega),r1 rfl _ (qar.refl _)⟩
 · rw [ygf.mpr fun _ _=>rfl]
   rw [qbu]
   refine ⟨_,p3,_,rfl,rfl,SqL.of qaf,qaD (M:=3) (N:=9) (fun y hy=>?_) (by rw [ycd];exact hl) (by rw [Tx.lit_space];decide) (by decide),q _ (s2.trans (qar.new hp3))⟩
   obtain ⟨n,hm,rfl⟩:=ybt.mp hy
   exact qgZ n (hn n hm)
abbrev qba:Stmt:=top 36
def qby:qam ["words", "told"] ["words", "told"] (qag qba):=fsc
def qkC (as:List Nat) (i:Nat):(nV as)[i]?=(as[i]?).map fun b=>V.int (b:Nat):=by
 rw [nV,nI,ycv,yco]
 rfl
def qkS {K:W.Frag} {g:TG} {σ:L2.St} {H:Hp} {a:Addr} {nt:Nat} {caps:List Nat} {tt:TT} {te:TE} {Q:VK} {as:List Nat} (f:Nat→V) (hq:H a=some (.tup (nV as))) (hz:as.length≤100000)
   (hs:∀x∈as,∀H1,qar H H1→∀(R:VK) (R':Hp→Prop),(∀H2,qar H1 H2→R (f x) H2)→g (.int (x:Nat)) (qbT nt caps σ) H1 fun σ4 H4=>tt σ4 H4 fun b H5=>if b=true then te σ4 H5 R else R' H5)
   (hd:∀H1 p,qar H H1→H1 p=none→Q (.ref p) (upd H1 p (.lst (as.map f)))):qcx (Itt K a) nt caps g tt te σ H Q:=by
 refine ⟨fun i m ys H1=>m=as.length-i∧i≤as.length∧ys=(as.take i).map f∧qar H H1,⟨_,rfl,ybz _,rfl,qar.refl _⟩,?_⟩
 rintro i m ys H2 ⟨rfl,hi,rfl,s2⟩
 have hq2:SqT K H2 a (nV as):=SqT.of (s2 _ _ hq)
 by_cases hlt:i<as.length
 · refine .inr ⟨⟨nV as,.int (as[i]:Nat),hq2,by rw [qkC,ycj hlt];rfl⟩,ydc (by rw [ycd,yfb];omega) (show 100000≤sizeLine by decide),fun x H3 y=>?_⟩
   obtain ⟨e,y⟩:=y
   subst e
   have hx:=y _ hq2
   rw [qkC,ycj hlt] at hx
   cases hx
   refine hs as[i] (ydp hlt) _ s2 _ _ fun H4 s4=>⟨as.length-(i+1),by omega,rfl,hlt,?_,s2.trans s4⟩
   rw [ygr,ycj hlt,ycu]
   rfl
 · obtain rfl:i=as.length:=by omega
   exact .inl ⟨⟨nV as,hq2,by rw [qa1];exact yba _⟩,ydc (by rw [ycd,yfb];omega) (show 100000≤sizeLine by decide),fun p hp=>by rw [ydi];exact hd H2 p s2 hp⟩
def wsT (ws:List Str) (d:Str) (as:List Nat):Str:=_root_.PySem.Txt.join " " (d::as.map (Tx.sT ws))
def qi5 (K:W.Frag):Sp:=sp2 fun x y H Q=>∃(p t:Addr) (ws:List Str) (d:Str) (as:List Nat),x = .ref p∧H p=some (.lst (sV ws))∧Tx.Wds ws∧y = .ref t∧H t=some (.tup (.str d::nV as))∧d.length≤8∧as.length≤8∧(∀a∈as,a<2^ws.length)∧∀H',qar H H'→Q (.str (wsT ws d as)) H'
def qcQ {f:Addr} {fd:FuncData} (F:Fun K "show_word_and_sets" "show_word_and_sets" qba f fd) (T:Txt mg) {f_42:Addr} {fd_42:FuncData} (C_42:Cal P w K mg base "show_set" 2 ["words", "one"] (qcJ K) f_42 fd_42):qaQ P w K mg base CX0 3 f fd ["words", "told"] (qi5 K):=by
 have sc:=qby
 refine F.ok qby (fun vs H Q E h=>by obtain ⟨_,_,rfl,_⟩:=h;rfl) (fun cdv A outer s H vs Q E hr h=>?_)
 obtain ⟨x0,x1,rfl,h⟩:=h
 refine ⟨_,(qad (qai (qbf yhg yhh yhi (qaM (K:=K) rfl) qaj (qaa (qap (qbe (K:=K) rfl) (qaH (qaa (qaA (qaS (K:=K) rfl) (pv 1) qae (fun _ _=>rfl)) qab)) (qaG (N:=["one", "words"]) (nt:=1) (caps:=[0]) qaC rfl (qjm (qbs (qhe (K:=K) rfl) (pv 1) (qbK qae) qch)) (fun _ _ _ _ _=>(qan (i:=0) (show List.Nodup (α:=Str) ["one", "words"] from by decide +kernel) rfl (Or.inl rfl))) qaE (fun _ _ _ _ _=>qaF) (fun _ _ _ _ _=>(pec C_42 hr (qaa (pv 1) (qaa (pv 0) qab)))))) qab)))),?_⟩
 refine rdg (σ':=[some x0,some x1]) rfl ?_
 obtain ⟨p,t,ws,d,as,rfl,f1,hw,rfl,f2,hd,hl,hb,q⟩:=h
 walk_at "rd"
 refine ⟨rfl,qaL (SqT.of f2) (qaz (j:=0) rfl) ⟨qaq (by simp),fun p1 hp1=>?_⟩⟩
 generalize g1:upd H p1 _=G1
 have a1:=qao g1
 have s1:=qah g1 hp1
 refine ⟨t,_,rfl,SqT.of (s1 _ _ f2),?_,fun p2 hp2=>?_⟩
 · rw [show (1:Int)=((1:Nat):Int) from rfl,HT.sIx_nat,ycb]
   omega
 rw [show (1:Int)=((1:Nat):Int) from rfl,qdY,yhs,ygd]
 generalize g2:upd G1 p2 _=G2
 have a2:=qao g2
 have s2:=s1.trans (qah g2 hp2)
 have a1:=qah g2 hp2 _ _ a1
 refine ⟨p2,rfl,⟨_,SqT.of a2⟩,qkS (fun b => .str (Tx.sT ws b)) a2 (by omega) (fun b hb' H3 s3 R R' r1=>?_) fun H3 p3 s3 hp3=>?_⟩
 · (try walk_at "rd")
   exact ⟨_,_,rfl,p,ws,b,rfl,s3 _ _ (s2 _ _ f1),hw,rfl,hb b hb',fun H4 s4=>r1 _ s4⟩
 rw [qbu]
 generalize g3:upd H3 p3 _=G3
 have a3:=qao g3
 have s3':=s3.trans (qah g3 hp3)
 refine ⟨p1,p3,_,_,rfl,rfl,SqL.of (s3' _ _ a1),SqL.of a3,ydc (by simp;omega) (show 100000≤sizeLine by decide),fun p4 hp4=>?_⟩
 refine ⟨_,p4,d::as.map (Tx.sT ws),rfl,rfl,SqL.of qaf,qaD (M:=72) (N:=9) (fun y hy=>?_) (by simp;omega) (by rw [Tx.lit_space];decide) (by decide),q _ ((s2.trans s3').trans (qar.new hp4))⟩
 rcases ybg.mp hy with rfl | hy
 · omega
 obtain ⟨b,hb',rfl⟩:=ybt.mp hy
 exact Tx.sT_len hw (hb b hb')
abbrev qcl:Stmt:=top 37
def qc6:qam ["words", "told"] ["words", "told"] (qag qcl):=fsc
def lkT (ws:List Str) (fs:List Nat) (a k:Nat):Str:=ws.getD k Str.empty++Str.ofString ":" ++ Tx.sT ws ((qhb fs a k).getD 0)
def qfR (ws:List Str) (fs:List Nat) (a:Nat):Str:=match qdN fs a with
 | some b=>wsT ws "misses" [b]
 | none=>match qlD fs a with
   | some k=>Str.ofString "spare " ++ ws.getD k Str.empty
   | none=>_root_.PySem.Txt.join " " (("least" : Str)::(Fam.nms 8 a).map (lkT ws fs a))
/-- what looked tells -/
def Lkd (H:Hp) (n:Nat) (fs:List Nat) (a:Nat) (t:Addr):Prop:=(∃b,qdN fs a=some b∧b<2^n∧H t=some (.tup [.str "misses",.int (b:Nat)])) ∨
 (qdN fs a=none∧∃k,qlD fs a=some k∧k<n∧H t=some (.tup [.str "spare",.int (k:Nat)])) ∨
 (qdN fs a=none∧qlD fs a=none∧∃(p':Addr) (ps:List Addr),H t=some (.tup [.str "least",.ref p'])∧H p'=some (.lst (ps.map V.ref))∧Rows H fs a (Fam.nms 8 a) ps)
def qqB (K:W.Frag):Sp:=sp2 fun x y H Q=>∃(p t:Addr) (ws:List Str) (fs:List Nat) (a:Nat),x = .ref p∧H p=some (.lst (sV ws))∧Tx.Wds ws∧y = .ref t∧Lkd H ws.length fs a t∧a<2^ws.length∧(∀b∈fs,b<2^ws.length)∧∀H',qar H H'→Q (.str (qfR ws fs a)) H'
def qfY {f:Addr} {fd:FuncData} (F:Fun K "show_looked" "show_looked" qcl f fd) (T:Txt mg) {f_01:Addr} {fd_01:FuncData} (C_01:Cal P w K mg base "show_word_and_sets" 3 ["words", "told"] (qi5 K) f_01 fd_01) {f_42:Addr} {fd_42:FuncData} (C_42:Cal P w K mg base "show_set" 2 ["words", "one"] (qcJ K) f_42 fd_42):qaQ P w K mg base CX0 4 f fd ["words", "told"] (qqB K):=by
 have sc:=qc6
 refine F.ok qc6 (fun vs H Q E h=>by obtain ⟨_,_,rfl,_⟩:=h;rfl) (fun cdv A outer s H vs Q E hr h=>?_)
 obtain ⟨x0,x1,rfl,h⟩:=h
 refine ⟨_,(qac (qaB (qal (qax (K:=K) rfl hr.units0) (qaA (qaS (K:=K) rfl) (pv 1) qae (fun _ _=>rfl)) qaj (qas _)) (qad (qai (qap qaK qaj (qaA (qaS (K:=K) rfl) (pv 0) (qaA (qaS (K:=K) rfl) (pv 1) qae (fun _ _=>rfl)) (fun _ _=>rfl))))) qak)
   (qac (qaB (qal (qax (K:=K) rfl hr.units0) (qaA (qaS (K:=K) rfl) (pv 1) qae (fun _ _=>rfl)) qaj (qas _)) (qad (qai (pec C_01 hr (qaa (pv 0) (qaa (pv 1) qab))))) qak)
   (qad (qai (qbf yhg yhh yhi (qaM (K:=K) rfl) qaj (qaa (qap (qbe (K:=K) rfl) (qaH (qaa qaj qab)) (qaG (N:=["k", "other", "words"]) (nt:=2) (caps:=[0]) qaC rfl (qaJ (qaA (qaS (K:=K) rfl) (pv 1) qae (fun _ _=>rfl))) (fun _ _ _ _ _=>(qgd (n:=2) rfl (qbd (qan (i:=0) (show List.Nodup (α:=Str) ["k", "other", "words"] from by decide +kernel) rfl (Or.inl rfl)) (qbd (qan (i:=1) (show List.Nodup (α:=Str) ["k", "other", "words"] from by decide +kernel) rfl (Or.inl rfl)) qel)))) qjA (fun _ _ _ _ _=>qaF) (fun _ _ _ _ _=>(qap qaK (qap qaK (qaA (qaS (K:=K) rfl) (pv 2) (pv 0) (fun _ _=>rfl)) qaj) (pec C_42 hr (qaa (pv 2) (qaa (pv 1) qab))))))) qab)))))),?_⟩
 refine rdg (σ':=[some x0,some x1]) rfl ?_
 obtain ⟨p,t,ws,fs,a,rfl,f1,hw,rfl,hL,ha,hb,q⟩:=h
 walk_at "rd"
 have gw:∀k,k<ws.length→ws[k]?=some (ws.getD k Str.empty):=fun k hk=>by rw [yci,ycj hk];rfl
 have gl:∀k,k<ws.length→(ws.getD k Str.empty).length≤8:=fun k hk=>(hw.wd _ (yck (gw k hk))).2.1
 have zz:100000≤sizeLine:=by decide
 obtain ⟨b,e0,hb',f2⟩ | ⟨e0,k,ek,hk,f2⟩ | ⟨e0,ek,p',ps,f2,f3,hr⟩:=hL
 · unfold qfR at q
   rw [e0] at q
   have n1:¬("misses" : Str)=Str.ofString "spare" := by decide +kernel
   have e1:decide (V.str ("misses" : Str)=V.str (Str.ofString "spare"))=false:=decide_eq_false fun e=>n1 (V.str.inj e)
   refine qaL (SqT.of f2) (qaz (j:=0) rfl) ⟨_,.inl ⟨rfl,rfl⟩,⟨false,congrArg V.bl e1,qc4 (qaL (SqT.of f2) (qaz (j:=0) rfl) ⟨_,.inl ⟨rfl,rfl⟩,⟨true,congrArg V.bl (decide_eq_true rfl),qez ?_⟩⟩)⟩⟩
   exact ⟨_,_,rfl,p,t,ws, "misses",[b],rfl,f1,hw,rfl,f2,by decide +kernel,by simp,fun x hx=>by rw [yei.mp hx];exact hb',q⟩
 · unfold qfR at q
   rw [e0] at q
   dsimp only at q
   rw [ek] at q
   have z1:=gl k hk
   have z2:(Str.ofString "spare ").length=6:=by decide +kernel
   refine qaL (SqT.of f2) (qaz (j:=0) rfl) ⟨_,.inl ⟨rfl,rfl⟩,⟨true,congrArg V.bl (decide_eq_true rfl),qez ?_⟩⟩
   refine qaL (SqT.of f2) (qaz (j:=1) rfl) (qaP (SqL.of f1) (qb8 (gw k hk)) ⟨_,rfl,by omega,q _ (qar.refl _)⟩)
 unfold qfR at q
 rw [e0] at q
 dsimp only at q
 rw [ek] at q
 have n1:¬("least" : Str)=Str.ofString "spare" := by decide +kernel
 have n2:¬("least" : Str)=Str.ofString "misses" := by decide +kernel
 have e1:decide (V.str ("least" : Str)=V.str (Str.ofString "spare"))=false:=decide_eq_false fun e=>n1 (V.str.inj e)
 have e2:decide (V.str ("least" : Str)=V.str (Str.ofString "misses"))=false:=decide_eq_false fun e=>n2 (V.str.inj e)
 have gk:∀k∈Fam.nms 8 a,k<ws.length:=fun k hk=>Tx.nms_lt ha hk
 have gw2:∀k,k<ws.length→ws[k]?=some (ws.getD k Str.empty):=fun k hk=>by rw [yci,ycj hk];rfl
 have gl2:∀k,k<ws.length→(ws.getD k Str.empty).length≤8:=fun k hk=>(hw.wd _ (yck (gw k hk))).2.1
 have gc:(Str.ofString ":").length=1:=by decide +kernel
 have gs:∀k,k<ws.length→(ws.getD k Str.empty++Str.ofString ":").length≤9:=fun k hk=>by
   rw [Str.length_append,gc]
   have:=gl k hk
   omega
 refine qaL (SqT.of f2) (qaz (j:=0) rfl) ⟨_,.inl ⟨rfl,rfl⟩,⟨false,congrArg V.bl e1,qc4 (qaL (SqT.of f2) (qaz (j:=0) rfl) ⟨_,.inl ⟨rfl,rfl⟩,⟨false,congrArg V.bl e2,qc4 ⟨rfl,qaq (by simp),fun p1 hp1=>?_⟩⟩⟩)⟩⟩
 generalize g1:upd H p1 _=G1
 have a1:=qao g1
 have s1:=qah g1 hp1
 have l8:(Fam.nms 8 a).length≤8:=ydc (ygc _ _) (by simp)
 have lp:=hr.1
 refine qaL (SqT.of (s1 _ _ f2)) (qaz (j:=1) rfl) ⟨p',rfl,⟨_,SqL.of (s1 _ _ f3)⟩,qe3 (xs:=ps.map V.ref) (fun i ys H1=>qar G1 H1∧ys=sV (((Fam.nms 8 a).take i).map (lkT ws fs a))) ⟨qar.refl _,rfl⟩ (ydc (by rw [ycd];omega) (show 100000≤sizeLine by decide)) (fun i ys H1 hi h=>⟨SqL.of (h.1 _ _ (s1 _ _ f3)),by rw [h.2,qaR,ycd,yfb];omega⟩) (fun i x ys H1 hx h R R' r1 r2=>?_) fun ys H1 h p3 hp3=>?_⟩
 · obtain ⟨s3,rfl⟩:=h
   rw [yco] at hx
   cases er:ps[i]? with
   | none=>rw [er] at hx;cases hx
   | some r =>
     rw [er] at hx
     cases hx
     have hi:i<(Fam.nms 8 a).length:=by
       have:=(ycl.mp er).1
       omega
     obtain ⟨o,eo,ho⟩:=hr.2 i _ r (ycj hi) er
     (try walk_at "rd")
     have hk:=ydp hi
     have ob:=hb o (yby eo)
     generalize ek:(Fam.nms 8 a)[i]=k at eo ho hk
     have kl:=gk k hk
     have z1:=gl k kl
     have z2:=gs k kl
     have z3:=Tx.sT_len hw ob
     have zz:100000≤sizeLine:=by decide
     refine ⟨_,SqT.of (s3 _ _ (s1 _ _ ho)),rfl,_,_,rfl,_,_,rfl,rfl,qaP (SqL.of (s3 _ _ (s1 _ _ f1))) (qb8 (gw k kl)) ⟨_,rfl,by omega,_,_,rfl,p,ws,o,rfl,s3 _ _ (s1 _ _ f1),hw,rfl,ob,fun H4 s4=>⟨_,rfl,by omega,r1 _ _ ⟨s3.trans s4,?_⟩⟩⟩⟩
     rw [ygr,ycj hi,ek,ycu]
     show _=List.map V.str (_++_)
     rw [ycu]
     show _=_++[V.str (lkT ws fs a k)]
     unfold lkT
     rw [eo]
     rfl
 obtain ⟨s3,rfl⟩:=h
 generalize g3:upd H1 p3 _=G3
 have a3:=qao g3
 have s3':=s3.trans (qah g3 hp3)
 rw [ycd,lp,ydi] at a3
 refine ⟨p1,p3,_,_,rfl,rfl,SqL.of (s3' _ _ a1),SqL.of a3,ydc (by simp;omega) (show 100000≤sizeLine by decide),fun p4 hp4=>?_⟩
 refine ⟨_,p4,("least" : Str)::(Fam.nms 8 a).map (lkT ws fs a),rfl,rfl,SqL.of qaf,qaD (M:=100) (N:=9) (fun y hy=>?_) (by simp;omega) (by rw [Tx.lit_space];decide) (by decide),q _ ((s1.trans s3').trans (qar.new hp4))⟩
 rcases ybg.mp hy with rfl | hy
 · decide +kernel
 obtain ⟨k,hk,rfl⟩:=ybt.mp hy
 have kl:=gk k hk
 have z2:=gs k kl
 obtain ⟨j,hj,ej⟩:=ycn hk
 obtain ⟨o,eo,ho⟩:=hr.2 j k (ps[j]'(by omega)) (by rw [ycj hj,ej]) (ycj _)
 unfold lkT
 rw [Str.length_append,eo]
 have z3:=Tx.sT_len hw (hb o (yby eo))
 show _+(Tx.sT ws o).length≤_
 omega
abbrev qgp:Stmt:=top 59
def qie:qam ["counts", "lists", "count"] ["counts"] (qag qgp):=fsc
def qj1 (K:W.Frag):Sp:=sp1 fun x H Q=>∃(p:Addr) (cs:List Nat),x = .ref p∧H p=some (.lst (nV cs))∧cs.length≤8∧∀(p':Addr) (ps:List Addr) (H':Hp),qar H H'→qgD H H' p' (rkd cs) ps→Q (.ref p') H'
def qmT {f:Addr} {fd:FuncData} (F:Fun K "ranked" "ranked" qgp f fd) (T:Txt mg)  : qaQ P w K mg base CX0 1 f fd ["counts"] (qj1 K):=by
 have sc:=qie
 refine F.ok qie (fun vs H Q E h=>by obtain ⟨_,rfl,_⟩:=h;rfl) (fun cdv A outer s H vs Q E hr h=>?_)
 obtain ⟨x0,rfl,h⟩:=h
 refine ⟨_,(qac (qat (i:=1) sc.nd rfl (Or.inl rfl) (qaH qab))
   (qac (qaY PassesOwn.never rfl (qiN (K:=K) rfl (by rfl) T.n_reversed (qaa (qav (qbr (P:=P) (w:=w) (K:=K) rfl rfl rfl rfl) (by rfl) T.n_sorted PyProof.Rows.boot_sorted (qaa (qaT (qdP (P:=P) (w:=w) (K:=K) rfl rfl rfl rfl) (by rfl) T.n_set PyProof.Rows.boot_set (qaa (pv 0) qab)) qab)) qab)) (qan (i:=2) sc.nd rfl (Or.inr rfl)) (qad (qb3 (qbf yhd yhe yhf qce (pv 1) (qaa (qaG (N:=["k", "turned", "count"]) (nt:=2) (caps:=[2]) qaC rfl (qq1 (K:=K) rfl (by rfl) T.n_enumerate (qaa (pv 0) qab)) (fun _ _ _ _ _=>(qgd (n:=2) rfl (qbd (qan (i:=0) (show List.Nodup (α:=Str) ["k", "turned", "count"] from by decide +kernel) rfl (Or.inl rfl)) (qbd (qan (i:=1) (show List.Nodup (α:=Str) ["k", "turned", "count"] from by decide +kernel) rfl (Or.inl rfl)) qel)))) qjA (fun _ _ _ _ _=>(qfj (qal (qax (K:=K) rfl hr.units0) (pv 1) (pv 2) (qas _)))) (fun _ _ _ _ _=>(pv 0))) qab)))))
   (qad (qai (pv 1))))),?_⟩
 refine rdg (σ':=[some x0,none,none]) rfl ?_
 obtain ⟨p,cs,rfl,f1,hl,q⟩:=h
 walk_at "rd"
 refine ⟨qaq (by simp),fun p0 hp0=>?_⟩
 generalize g0:upd H p0 _=G0
 have a0:=qao g0
 have t0:=qah g0 hp0
 refine ⟨p,_,rfl,SqL.of (t0 _ _ f1),by simp;omega,fun p1 hp1=>?_⟩
 generalize g1:upd G0 p1 _=G1
 have a1:=qao g1
 have t1:=t0.trans (qah g1 hp1)
 have a0:=qah g1 hp1 _ _ a0
 refine ⟨p1,_,rfl,.inr a1,ydc (qcc _) (by simp;omega),fun p2 ms hp2 m1 m2=>?_⟩
 have lsd:=qof cs hl
 rw [qbO m1 m2]
 generalize g2:upd G1 p2 _=G2
 have a2:=qao g2
 have t2:=t1.trans (qah g2 hp2)
 have n02:=qcs hp2 a0
 have a0:=qah g2 hp2 _ _ a0
 refine ⟨p2,rfl,_,SqL.of a2,?_⟩
 refine qsO (fs:=sd cs) (fun i σ H3=>∃(v:Option V) (ps:List Addr),σ=[some (.ref p),some (.ref p0),v]∧qar H H3∧H3 p2=some (.lst (nV (sd cs)))∧qgD H H3 p0 (((sd cs).reverse.take i).map (rkV cs)) ps∧∀r∈ps,r≠p0) ⟨none,[],rfl,t2,a2,⟨hp0,a0,rfl,fun j r L z=>(by cases z)⟩,fun r hr=>(by cases hr)⟩ (fun i σ H3 _ ⟨_,_,_,_,e,_⟩=>SqL.of e) ?_ ?_
 · rintro i b σ H3 hbi ⟨v,ps,rfl,s3,b2,L3,hne⟩ N hN
   have lps:ps.length≤8:=by
     rw [L3.2.2.1,ycd,yfb,ygl]
     omega
   (try walk_at "rd")
   refine ⟨qcY L3.2.1,_,SqL.of (s3 _ _ f1),qr8 (fs:=cs) (fun _ x=>decide (x=b)) (fun k => .int (k:Nat)) (SqL.of (s3 _ _ f1)) (by omega) (fun k x hx R R' H4 t s4 at4 r1 r2=>?_) fun H4 p4 s4 hp4=>?_⟩
   · (try walk_at "rd")
     refine ⟨_,SqT.of at4,rfl,_,_,rfl,_,_,rfl,rfl,?_⟩
     (try walk_at "rd")
     exact qgM (b:=decide (x=b)) (by rw [decide_eq_true_eq];omega) r1 r2
   rw [qtb,show ((List.range cs.length).filter fun i=>decide (cs.getD i 0=b))=rkV cs b from rfl]
   generalize g4:upd H4 p4 _=G4
   have a4:=qao g4
   have s4':=s4.trans (qah g4 hp4)
   have n4:=qcs hp4 (s4 _ _ L3.2.1)
   have L4:=L3.mono s4'
   refine ⟨p0,_,_,rfl,rfl,L4.2.1,qcD (by rw [ycd];omega),?_⟩
   refine hN _ _ ⟨_,ps++[p4],rfl,(s3.trans s4').upd hp0,by rw [qay (Ne.symm n02)];exact s4' _ _ b2,?_,fun r hr=>?_⟩
   · rw [ygr,hbi,ycu]
     exact L4.snoc (qau (s3.trans s4) hp4) a4 hne (Ne.symm n4)
   · rcases yaw.mp hr with z | z
     · exact hne r z
     · rw [show r=p4 by simpa using z];exact Ne.symm n4
 · rintro σ H3 ⟨v,ps,rfl,s3,b2,L3,hne⟩
   rw [←ygl,ydi] at L3
   (try walk_at "rd")
   exact q p0 ps _ s3 L3
abbrev qiW:Stmt:=top 58
def qjo:qam ["many", "family", "table", "x", "y", "told"] ["many", "family"] (qag qiW):=fsc
/-- what ranks tells,its objects new to H0 -/
def Rkd (H0 H:Hp) (m:Nat) (f:Nat→Bool) (t:Addr):Prop:=H0 t=none∧((∃x y s u:Nat,x<y∧y<m∧qiq m f x y∧Fam.part m f x y=some s∧Fam.part m f y x=some u∧H t=some (.tup [.str "apart",.int (x:Nat),.int (y:Nat),.int (s:Nat),.int (u:Nat)])) ∨
 qiq m f m 0∧∃(p':Addr) (ps:List Addr),H t=some (.tup [.str "ranks",.ref p'])∧qgD H0 H p' (rkd (Fam.trns m f)) ps)
def Rkd.mono {H0 H H':Hp} {m:Nat} {f:Nat→Bool} {t:Addr} (h:Rkd H0 H m f t) (s:qar H H'):Rkd H0 H' m f t:=by
 obtain ⟨h0,⟨x,y,u,v,h1,h2,h3,h4,h5,h6⟩ | ⟨h1,p',ps,h2,h3⟩⟩:=h
 · exact ⟨h0,.inl ⟨x,y,u,v,h1,h2,h3,h4,h5,s _ _ h6⟩⟩
 · exact ⟨h0,.inr ⟨h1,p',ps,s _ _ h2,h3.mono s⟩⟩
def qhk (K:W.Frag):Sp:=sp2 fun x y H Q=>∃(m:Nat) (p:Addr) (fs:List Nat),x = .int m∧m≤8∧y = .ref p∧H p=some (.lst (nV fs))∧∀t H',qar H H'→Rkd H H' m (Fam.sayP fs) t→Q (.ref t) H'
def qnB {f:Addr} {fd:FuncData} (F:Fun K "ranks" "ranks" qiW f fd) (T:Txt mg) {f_44:Addr} {fd_44:FuncData} (C_44:Cal P w K mg base "table_of" 3 ["many", "family"] (qdS K) f_44 fd_44) {f_58:Addr} {fd_58:FuncData} (C_58:Cal P w K mg base "ranked" 1 ["counts"] (qj1 K) f_58 fd_58) {f_18:Addr} {fd_18:FuncData} (C_18:Cal P w K mg base "compared_in" 3 ["many", "table", "x", "y"] (qcB K) f_18 fd_18) {f_64:Addr} {fd_64:FuncData} (C_64:Cal P w K mg base "turns" 4 ["many", "family"] (qgN K) f_64 fd_64):qaQ P w K mg base CX0 5 f fd ["many", "family"] (qhk K):=by
 have sc:=qjo
 refine F.ok qjo (fun vs H Q E h=>by obtain ⟨_,_,rfl,_⟩:=h;rfl) (fun cdv A outer s H vs Q E hr h=>?_)
 obtain ⟨x0,x1,rfl,h⟩:=h
 refine ⟨_,(qac (qat (i:=2) sc.nd rfl (Or.inl rfl) (pec C_44 hr (qaa (pv 0) (qaa (pv 1) qab))))
   (qac (qaY PassesOwn.never rfl (qaI (by rfl) T.n_range (qaa (pv 0) qab)) (qan (i:=3) sc.nd rfl (Or.inl rfl)) (qad (qaY PassesOwn.never rfl (qmM (by rfl) T.n_range (qaa (qap qa4 (pv 3) qae) (qaa (pv 0) qab))) (qan (i:=4) sc.nd rfl (Or.inl rfl)) (qac (qat (i:=5) sc.nd rfl (Or.inl rfl) (pec C_18 hr (qaa (pv 0) (qaa (pv 2) (qaa (pv 3) (qaa (pv 4) qab))))))
   (qad (qaB (qal (qax (K:=K) rfl hr.units0) (qaA (qaS (K:=K) rfl) (pv 5) qae (fun _ _=>rfl)) qaj (qas _)) (qad (qai (qa5 (qaa qaj (qaa (pv 3) (qaa (pv 4) (qaa (qaA (qaS (K:=K) rfl) (pv 5) qae (fun _ _=>rfl)) (qaa (qaA (qaS (K:=K) rfl) (pv 5) qae (fun _ _=>rfl)) qab)))))))) qak))))))
   (qad (qai (qa5 (qaa qaj (qaa (pec C_58 hr (qaa (pec C_64 hr (qaa (pv 0) (qaa (pv 1) qab))) qab)) qab))))))),?_⟩
 refine rdg (σ':=[some x0,some x1,none,none,none,none]) rfl ?_
 obtain ⟨m,p,fs,rfl,hm,rfl,f1,q⟩:=h
 walk_at "rd"
 refine ⟨_,_,rfl,m,p,fs,rfl,hm,rfl,f1,fun G1 p1 hp1 t1 a1=>?_⟩
 (try walk_at "rd")
 refine ⟨by omega,by omega,?_⟩
 rw [yfg]
 refine qdb (fun x σ H3=>∃v1 v2 v3,σ=[some (.int m),some (.ref p),some (.ref p1),v1,v2,v3]∧qar G1 H3∧qiq m (Fam.sayP fs) x 0) ⟨none,none,none,rfl,qar.refl _,fun x' y' h1 h2 h3=>(by omega)⟩ ?_ ?_
 · rintro x σ H3 hx ⟨v1,v2,v3,rfl,s3,h3⟩ N hN
   (try walk_at "rd")
   refine ⟨_,_,⟨rfl,rfl⟩,⟨by omega,by omega,by omega,by omega⟩,qrY (lo:=x+1) (by simp) (fun j σ H4=>∃v2 v3,σ=[some (.int m),some (.ref p),some (.ref p1),some (.int (x:Nat)),v2,v3]∧qar G1 H4∧qiq m (Fam.sayP fs) x (x+1+j)) ⟨_,_,rfl,s3,fun x' y' h1 h2 h4=>?_⟩ ?_ ?_⟩
   · rcases h4 with z | z
     · exact h3 x' y' h1 h2 (.inl z)
     · omega
   · rintro j σ H4 hj ⟨v2,v3,rfl,s4,h4⟩ N2 hN2
     have hy:x+1+j<m:=by omega
     generalize ey:x+1+j=y at *
     (try walk_at "rd")
     refine ⟨_,_,_,_,rfl,m,p1,Fam.sayP fs,x,y,rfl,hm,rfl,SqL.of (s4 _ _ a1),rfl,hx,rfl,hy,fun t G5 ht s5 at5=>?_⟩
     (try walk_at "rd")
     have s5':=s4.trans s5
     unfold qoy at at5
     have nx:Fam.part m (Fam.sayP fs) x y=none∨Fam.part m (Fam.sayP fs) y x=none→qiq m (Fam.sayP fs) x (x+1+(j+1)):=fun z x' y' h1 h2 h5=>by
       by_cases c:x'=x∧y'=y
       · rw [c.1,c.2];exact z
       · exact h4 x' y' h1 h2 (by omega)
     cases e1:Fam.part m (Fam.sayP fs) x y with
     | none =>
       cases e2:Fam.part m (Fam.sayP fs) y x with
       | none =>
         rw [e1,e2] at at5
         refine qaL (SqT.of at5) rfl (eqS false (by decide) ⟨_,rfl,qc4 (hN2 _ _ ⟨_,_,rfl,s5',nx (.inl e1)⟩)⟩)
       | some u =>
         rw [e1,e2] at at5
         refine qaL (SqT.of at5) rfl (eqS false (by decide) ⟨_,rfl,qc4 (hN2 _ _ ⟨_,_,rfl,s5',nx (.inl e1)⟩)⟩)
     | some s =>
       cases e2:Fam.part m (Fam.sayP fs) y x with
       | none =>
         rw [e1,e2] at at5
         refine qaL (SqT.of at5) rfl (eqS false (by decide) ⟨_,rfl,qc4 (hN2 _ _ ⟨_,_,rfl,s5',nx (.inr e2)⟩)⟩)
       | some u =>
         rw [e1,e2] at at5
         refine qaL (SqT.of at5) rfl (eqS true (by decide) ⟨_,rfl,qez ?_⟩)
         refine qaL (SqT.of at5) rfl (qaL (SqT.of at5) rfl ⟨qaq (by simp),fun t6 ht6=>?_⟩)
         have s6:=(t1.trans s5').trans (qar.new (o := .tup [.str "apart",.int (x:Nat),.int (y:Nat),.int (s:Nat),.int (u:Nat)]) ht6)
         refine q t6 _ s6 ⟨qau (t1.trans s5') ht6,.inl ⟨x,y,s,u,by omega,hy,h4,e1,e2,qaf⟩⟩
   · rintro σ H4 ⟨v2,v3,rfl,s4,h4⟩
     refine hN _ _ ⟨_,_,_,rfl,s4,fun x' y' h1 h2 h5=>h4 x' y' h1 h2 (by omega)⟩
 · rintro σ H3 ⟨v1,v2,v3,rfl,s3,h3⟩
   (try walk_at "rd")
   have t3:=t1.trans s3
   refine ⟨_,_,rfl,m,p,fs,rfl,hm,rfl,t3 _ _ f1,fun G5 p5 hp5 t5 a5=>?_⟩
   (try walk_at "rd")
   refine ⟨_,rfl,p5,_,rfl,a5,by rw [qbc];exact hm,fun p6 ps G6 t6 L6=>⟨qaq (by simp),fun t ht=>?_⟩⟩
   have s6:=(t3.trans t5).trans t6
   refine q t _ (s6.trans (qar.new ht)) ⟨qau s6 ht,.inr ⟨h3,p6,ps,qaf,?_⟩⟩
   exact (L6.back (t3.trans t5)).mono (qar.new ht)
abbrev qcM:Stmt:=top 39
def qdJ:qam ["words", "names"] ["words", "names"] (qag qcM):=fsc
def alT (ws:List Str) (ks:List Nat):Str:=_root_.PySem.Txt.join "=" (ks.map fun k=>ws.getD k Str.empty)
def qiB:("=" : Str)=⟨#[61]⟩:=by decide +kernel
def qoX {ws:List Str} (hw:Tx.Wds ws) {ks:List Nat} (hl:ks.length≤8) (hk:∀k∈ks,k<ws.length):(alT ws ks).length≤100:=by
 unfold alT
 rw [←Tx.len_sg,qiB,Tx.txt_join]
 refine ydc (Tx.jn_len (M:=8) fun x hx=>?_) (show _*9≤_ by rw [ycd,ycd];omega)
 obtain ⟨w,hw',rfl⟩:=ybt.mp hx
 obtain ⟨k,hk',rfl⟩:=ybt.mp hw'
 rw [Tx.len_sg,yci,ycj (hk k hk')]
 exact (hw.wd _ (ydp _)).2.1
def quq (K:W.Frag):Sp:=sp2 fun x y H Q=>∃(p p2:Addr) (ws:List Str) (ks:List Nat),x = .ref p∧H p=some (.lst (sV ws))∧Tx.Wds ws∧y = .ref p2∧H p2=some (.lst (nV ks))∧ks.length≤8∧(∀k∈ks,k<ws.length)∧∀H',qar H H'→Q (.str (alT ws ks)) H'
def qgR {f:Addr} {fd:FuncData} (F:Fun K "show_alike" "show_alike" qcM f fd) (T:Txt mg)  : qaQ P w K mg base CX0 1 f fd ["words", "names"] (quq K):=by
 have sc:=qdJ
 refine F.ok qdJ (fun vs H Q E h=>by obtain ⟨_,_,rfl,_⟩:=h;rfl) (fun cdv A outer s H vs Q E hr h=>?_)
 obtain ⟨x0,x1,rfl,h⟩:=h
 refine ⟨_,(qad (qai (qbf yhg yhh yhi (qaM (K:=K) rfl) qaj (qaa (qaG (N:=["k", "words"]) (nt:=1) (caps:=[0]) qaC rfl (qaJ (pv 1)) (fun _ _ _ _ _=>(qan (i:=0) (show List.Nodup (α:=Str) ["k", "words"] from by decide +kernel) rfl (Or.inl rfl))) qaE (fun _ _ _ _ _=>qaF) (fun _ _ _ _ _=>(qaA (qaS (K:=K) rfl) (pv 1) (pv 0) (fun _ _=>rfl)))) qab)))),?_⟩
 refine rdg (σ':=[some x0,some x1]) rfl ?_
 obtain ⟨p,p2,ws,ks,rfl,f1,hw,rfl,f2,hl,hk,q⟩:=h
 have gw:∀k,k<ws.length→ws[k]?=some (ws.getD k Str.empty):=fun k hk=>by rw [yci,ycj hk];rfl
 have gl:∀k,k<ws.length→(ws.getD k Str.empty).length≤8:=fun k hk=>(hw.wd _ (yck (gw k hk))).2.1
 walk_at "rd"
 refine ⟨rfl,⟨_,SqL.of f2⟩,qbQ (fs:=ks) (fun _=>true) (fun k => .str (ws.getD k Str.empty)) (SqL.of f2) (by omega) (fun k hm H2 s2 R R' r1 r2=>?_) fun H2 p3 s2 hp3=>?_⟩
 · (try walk_at "rd")
   exact qaP (SqL.of (s2 _ _ f1)) (qb8 (gw k (hk k hm))) (r1 rfl _ (qar.refl _))
 · rw [ygf.mpr fun _ _=>rfl,qbu]
   refine ⟨_,p3,_,rfl,rfl,SqL.of qaf,qaD (M:=8) (N:=8) (fun y hy=>?_) (by rw [ycd];exact hl) (by rw [qiB];decide) (by decide),q _ (s2.trans (qar.new hp3))⟩
   obtain ⟨k,hk',rfl⟩:=ybt.mp hy
   exact gl k (hk k hk')
abbrev qcC:Stmt:=top 38
def qdM:qam ["words", "told"] ["words", "told"] (qag qcC):=fsc
def rkT (ws:List Str) (L:List (List Nat)):Str:=_root_.PySem.Txt.join " " (("ranks" : Str)::L.map (alT ws))
def apT (ws:List Str) (x y:Nat):Str:=_root_.PySem.Txt.join " " [("apart" : Str),ws.getD x Str.empty,ws.getD y Str.empty]
/-- what may be told of ranks -/
def RkT (ws:List Str) (f:Nat→Bool) (t:Str):Prop:=(∃x y s u:Nat,x<y∧y<ws.length∧qiq ws.length f x y∧Fam.part ws.length f x y=some s∧Fam.part ws.length f y x=some u∧t=apT ws x y)∨(qiq ws.length f ws.length 0∧t=rkT ws (rkd (Fam.trns ws.length f)))
def qrA (K:W.Frag):Sp:=sp2 fun x y H Q=>∃(p t:Addr) (ws:List Str) (f:Nat→Bool) (H0:Hp),x = .ref p∧H p=some (.lst (sV ws))∧Tx.Wds ws∧y = .ref t∧Rkd H0 H ws.length f t∧∀z H',RkT ws f z→qar H H'→Q (.str z) H'
def qgF {f:Addr} {fd:FuncData} (F:Fun K "show_ranks" "show_ranks" qcC f fd) (T:Txt mg) {f_24:Addr} {fd_24:FuncData} (C_24:Cal P w K mg base "show_alike" 1 ["words", "names"] (quq K) f_24 fd_24):qaQ P w K mg base CX0 2 f fd ["words", "told"] (qrA K):=by
 have sc:=qdM
 refine F.ok qdM (fun vs H Q E h=>by obtain ⟨_,_,rfl,_⟩:=h;rfl) (fun cdv A outer s H vs Q E hr h=>?_)
 obtain ⟨x0,x1,rfl,h⟩:=h
 refine ⟨_,(qac (qaB (qal (qax (K:=K) rfl hr.units0) (qaA (qaS (K:=K) rfl) (pv 1) qae (fun _ _=>rfl)) qaj (qas _)) (qad (qai (qbf yhg yhh yhi (qaM (K:=K) rfl) qaj (qaa (qaH (qaa qaj (qaa (qaA (qaS (K:=K) rfl) (pv 0) (qaA (qaS (K:=K) rfl) (pv 1) qae (fun _ _=>rfl)) (fun _ _=>rfl)) (qaa (qaA (qaS (K:=K) rfl) (pv 0) (qaA (qaS (K:=K) rfl) (pv 1) qae (fun _ _=>rfl)) (fun _ _=>rfl)) qab)))) qab)))) qak)
   (qad (qai (qbf yhg yhh yhi (qaM (K:=K) rfl) qaj (qaa (qap (qbe (K:=K) rfl) (qaH (qaa qaj qab)) (qaG (N:=["names", "words"]) (nt:=1) (caps:=[0]) qaC rfl (qaJ (qaA (qaS (K:=K) rfl) (pv 1) qae (fun _ _=>rfl))) (fun _ _ _ _ _=>(qan (i:=0) (show List.Nodup (α:=Str) ["names", "words"] from by decide +kernel) rfl (Or.inl rfl))) qaE (fun _ _ _ _ _=>qaF) (fun _ _ _ _ _=>(pec C_24 hr (qaa (pv 1) (qaa (pv 0) qab)))))) qab))))),?_⟩
 refine rdg (σ':=[some x0,some x1]) rfl ?_
 obtain ⟨p,t,ws,f,H0,rfl,f1,hw,rfl,hR,q⟩:=h
 have gw:∀k,k<ws.length→ws[k]?=some (ws.getD k Str.empty):=fun k hk=>by rw [yci,ycj hk];rfl
 have gl:∀k,k<ws.length→(ws.getD k Str.empty).length≤8:=fun k hk=>(hw.wd _ (yck (gw k hk))).2.1
 have h8:=hw.few
 walk_at "rd"
 have zz:100000≤sizeLine:=by decide
 obtain ⟨h0,⟨x,y,s,u,hxy,hy,hno,e1,e2,f2⟩ | ⟨hno,p',ps,f2,L⟩⟩:=hR
 · have kx:=gl x (by omega)
   have ky:=gl y hy
   refine qaL (SqT.of f2) (qaz (j:=0) rfl) ⟨_,.inl ⟨rfl,rfl⟩,⟨true,congrArg V.bl (decide_eq_true rfl),qez ⟨rfl,?_⟩⟩⟩
   refine qaL (SqT.of f2) (qaz (j:=1) rfl) (qaP (SqL.of f1) (qb8 (gw x (by omega))) (qaL (SqT.of f2) (qaz (j:=2) rfl) (qaP (SqL.of f1) (qb8 (gw y hy)) ⟨qaq (by simp),fun p1 hp1=>?_⟩)))
   refine ⟨_,p1,[("apart" : Str),ws.getD x Str.empty,ws.getD y Str.empty],rfl,rfl,SqL.of qaf,qaD (M:=8) (N:=3) (fun z hz=>?_) (by simp) (by rw [Tx.lit_space];decide) (by decide),q _ _ (.inl ⟨x,y,s,u,hxy,hy,hno,e1,e2,rfl⟩) (qar.new hp1)⟩
   rcases ybg.mp hz with rfl | hz
   · decide +kernel
   rcases ybg.mp hz with rfl | hz
   · exact kx
   · rw [yei.mp hz]
     exact ky
 have n1:¬("ranks" : Str)=Str.ofString "apart" := by decide +kernel
 have e1:decide (V.str ("ranks" : Str)=V.str (Str.ofString "apart"))=false:=decide_eq_false fun e=>n1 (V.str.inj e)
 refine qaL (SqT.of f2) (qaz (j:=0) rfl) ⟨_,.inl ⟨rfl,rfl⟩,⟨false,congrArg V.bl e1,qc4 ⟨rfl,qaq (by simp),fun p1 hp1=>?_⟩⟩⟩
 generalize g1:upd H p1 _=G1
 have a1:=qao g1
 have s1:=qah g1 hp1
 have gL:∀l∈rkd (Fam.trns ws.length f),l.length≤8∧∀k∈l,k<ws.length:=fun l hl=>by
   obtain ⟨b,_,rfl⟩:=ybt.mp hl
   unfold rkV
   rw [qbc]
   exact ⟨ydc (ygc _ _) (by rw [ygm];exact h8),fun k hk=>ybk.mp (ybb.mp hk).1⟩
 have lR:(rkd (Fam.trns ws.length f)).length≤8:=by
   unfold rkd
   rw [ycd,ygl]
   exact qof _ (by rw [qbc];exact h8)
 generalize eLL:rkd (Fam.trns ws.length f)=LL at L gL lR
 have lps:=L.2.2.1
 refine qaL (SqT.of (s1 _ _ f2)) (qaz (j:=1) rfl) ⟨p',rfl,⟨_,SqL.of (s1 _ _ L.2.1)⟩,qe3 (xs:=ps.map V.ref) (fun i ys H1=>qar G1 H1∧ys=sV ((LL.take i).map (alT ws))) ⟨qar.refl _,rfl⟩ (qaq (by rw [ycd];omega)) (fun i ys H1 hi h=>⟨SqL.of (h.1 _ _ (s1 _ _ L.2.1)),by rw [h.2,qaR,ycd,yfb];omega⟩) (fun i x ys H1 hx h R R' r1 r2=>?_) fun ys H1 h p3 hp3=>?_⟩
 · obtain ⟨s3,rfl⟩:=h
   rw [yco] at hx
   cases er:ps[i]? with
   | none=>rw [er] at hx;cases hx
   | some r =>
     rw [er] at hx
     cases hx
     have hi:i<LL.length:=by
       have:=(ycl.mp er).1
       omega
     have el:LL[i]?=some LL[i]:=ycj hi
     have hq:=(L.2.2.2 i r _ er el).2
     obtain ⟨gl1,gl2⟩:=gL _ (yck el)
     (try walk_at "rd")
     refine ⟨_,_,rfl,p,r,ws,LL[i],rfl,s3 _ _ (s1 _ _ f1),hw,rfl,s3 _ _ (s1 _ _ hq),gl1,gl2,fun H4 s4=>r1 _ _ ⟨s3.trans s4,?_⟩⟩
     rw [ygr,el,ycu]
     show _=List.map V.str (_++_)
     rw [ycu]
     rfl
 obtain ⟨s3,rfl⟩:=h
 generalize g3:upd H1 p3 _=G3
 have a3:=qao g3
 have s3':=s3.trans (qah g3 hp3)
 rw [ycd,lps,ydi] at a3
 refine ⟨p1,p3,_,_,rfl,rfl,SqL.of (s3' _ _ a1),SqL.of a3,qaq (by simp;omega),fun p4 hp4=>?_⟩
 refine ⟨_,p4,("ranks" : Str)::LL.map (alT ws),rfl,rfl,SqL.of qaf,qaD (M:=100) (N:=9) (fun y hy=>?_) (by simp;omega) (by rw [Tx.lit_space];decide) (by decide),q _ _ (.inr ⟨hno,by rw [eLL];rfl⟩) ((s1.trans s3').trans (qar.new hp4))⟩
 rcases ybg.mp hy with rfl | hy
 · decide +kernel
 obtain ⟨l,hl,rfl⟩:=ybt.mp hy
 exact qoX hw (gL l hl).1 (gL l hl).2
abbrev qds:Stmt:=top 68
def qeH:qam ["weights", "one"] ["weights", "one"] (qag qds):=fsc
def qno (L:List Nat):(nI L).sum=((L.sum:Nat):Int):=by
 induction L with
 | nil=>rfl
 | cons a r ih =>
   have:(nI (a::r)).sum=(a:Int)+(nI r).sum:=by simp [nI]
   rw [this,ih,ycg]
   omega
def qf7 (K:W.Frag):Sp:=sp2 fun x y H Q=>∃(p:Addr) (ws:List Nat) (a:Nat),x = .ref p∧H p=some (.lst (nV ws))∧ws.length≤8∧y = .int a∧a<2^ws.length∧∀H',qar H H'→Q (.int (Fam.wt ws a:Nat)) H'
def qhL {f:Addr} {fd:FuncData} (F:Fun K "weight_of" "weight_of" qds f fd) (T:Txt mg) {f_41:Addr} {fd_41:FuncData} (C_41:Cal P w K mg base "names_in" 1 ["one"] qdX f_41 fd_41):qaQ P w K mg base CX0 2 f fd ["weights", "one"] (qf7 K):=by
 have sc:=qeH
 refine F.ok qeH (fun vs H Q E h=>by obtain ⟨_,_,rfl,_⟩:=h;rfl) (fun cdv A outer s H vs Q E hr h=>?_)
 obtain ⟨x0,x1,rfl,h⟩:=h
 refine ⟨_,(qad (qai (qav (qmF (K:=K) rfl rfl) (by rfl) T.n_sum PyProof.Rows.boot_sum (qaa (qaG (N:=["k", "weights"]) (nt:=1) (caps:=[0]) qaC rfl (qaJ (pec C_41 hr (qaa (pv 1) qab))) (fun _ _ _ _ _=>(qan (i:=0) (show List.Nodup (α:=Str) ["k", "weights"] from by decide +kernel) rfl (Or.inl rfl))) qaE (fun _ _ _ _ _=>qaF) (fun _ _ _ _ _=>(qaA (qaS (K:=K) rfl) (pv 1) (pv 0) (fun _ _=>rfl)))) qab)))),?_⟩
 refine rdg (σ':=[some x0,some x1]) rfl ?_
 obtain ⟨p,ws,a,rfl,f1,hl,rfl,ha,q⟩:=h
 walk_at "rd"
 have a8:a<256:=yaf ha (yag (n:=2) (by decide) hl)
 have l8:(Fam.nms 8 a).length≤8:=ydc (ygc _ _) (by simp)
 refine ⟨_,rfl,a,rfl,a8,fun G1 p1 t1 hp1=>?_⟩
 generalize g1:upd G1 p1 _=G2
 have a1:=qao g1
 have t2:=t1.trans (qah g1 hp1)
 refine ⟨p1,rfl,⟨_,SqL.of a1⟩,qbQ (fs:=Fam.nms 8 a) (fun _=>true) (fun k => .int (ws.getD k 0:Nat)) (SqL.of a1) (by omega) (fun k hk H3 s3 R R' r1 r2=>?_) fun G3 p3 t3 hp3=>?_⟩
 · (try walk_at "rd")
   have km:=Fam.bit_low ha (Fam.mem_nms.mp hk).2
   have e:ws[k]?=some (ws.getD k 0):=by rw [yci,ycj km];rfl
   exact qaP (SqL.of (s3 _ _ (t2 _ _ f1))) (qtU e) (r1 rfl _ (qar.refl _))
 have e:((Fam.nms 8 a).filter fun _=>true).map (fun k=>V.int (ws.getD k 0:Nat))=nV ((Fam.nms 8 a).map fun k=>ws.getD k 0):=by
   rw [ygf.mpr fun _ _=>rfl]
   simp
 rw [e]
 refine ⟨p3,rfl,nI ((Fam.nms 8 a).map fun k=>ws.getD k 0),SqL.of qaf,?_⟩
 rw [qno]
 exact q _ ((t2.trans t3).trans (qar.new hp3))
abbrev qgv:Stmt:=top 70
def qhK:qam ["x", "y", "s", "t", "yes", "no"] ["x", "y", "s", "t"] (qag qgv):=fsc
def qlV {L:List Nat} {ms:List Int} (h:ms.Perm (nI L)):∃ys:List Nat,ms=nI ys∧ys.Perm L:=by
 refine ⟨ms.map Int.toNat,?_,?_⟩
 · have:∀(l:List Int),(∀x∈l,0≤x)→l=nI (l.map Int.toNat):=fun l=>by
     induction l with
     | nil=>intro _;rfl
     | cons a r ih =>
       intro hl
       have h1:=hl a ybe
       have h2:=ih fun x hx=>hl x (ybh _ hx)
       show a::r=(a.toNat:Int)::nI (r.map Int.toNat)
       rw [←h2,yhb h1]
   refine this ms fun x hx=>?_
   obtain ⟨b,_,rfl⟩:=ybt.mp (h.mem_iff.mp hx)
   exact yew b
 · have:=h.map Int.toNat
   have e:(nI L).map Int.toNat=L:=by unfold nI;rw [ycv];exact List.map_id'' (fun x=>rfl) L
   rwa [e] at this
def qtf {ys:List Nat} (h:(nI ys).Pairwise (·≤·)):ys.Pairwise (·≤·):=by
 unfold nI at h
 rw [ybv] at h
 exact h.imp fun h=>Int.ofNat_le.mp h
def qjO:Sp:=sp4 fun u v a b H Q=>∃x y s t:Nat,u = .int (x:Nat)∧v = .int (y:Nat)∧a = .int (s:Nat)∧b = .int (t:Nat)∧x<8∧y<8 ∧
 ∀(tt p1 p2:Addr) (ys ns:List Nat) (H':Hp),qar H H'→H tt=none→H p1=none→H p2=none→p1≠p2→H' tt=some (.tup [.str "trade",.ref p1,.ref p2])→H' p1=some (.lst (nV ys))→H' p2=some (.lst (nV ns))→ys.Perm [s|||2^x,t|||2^y]→ns.Perm [s|||2^y,t|||2^x]→ys.Pairwise (·≤·)→ns.Pairwise (·≤·)→Q (.ref tt) H'
def qkT {f:Addr} {fd:FuncData} (F:Fun K "traded" "traded" qgv f fd) (T:Txt mg)  : qaQ P w K mg base CX0 1 f fd ["x", "y", "s", "t"] qjO:=by
 have sc:=qhK
 refine F.ok qhK (fun vs H Q E h=>by obtain ⟨_,_,_,_,rfl,_⟩:=h;rfl) (fun cdv A outer s H vs Q E hr h=>?_)
 obtain ⟨x0,x1,x2,x3,rfl,h⟩:=h
 refine ⟨_,(qac (qat (i:=4) sc.nd rfl (Or.inl rfl) (qav (qbr (P:=P) (w:=w) (K:=K) rfl rfl rfl rfl) (by rfl) T.n_sorted PyProof.Rows.boot_sorted (qaa (qaH (qaa (qap qgL (pv 2) (qap qbE qae (pv 0))) (qaa (qap qgL (pv 3) (qap qbE qae (pv 1))) qab))) qab)))
   (qac (qat (i:=5) sc.nd rfl (Or.inl rfl) (qav (qbr (P:=P) (w:=w) (K:=K) rfl rfl rfl rfl) (by rfl) T.n_sorted PyProof.Rows.boot_sorted (qaa (qaH (qaa (qap qgL (pv 2) (qap qbE qae (pv 1))) (qaa (qap qgL (pv 3) (qap qbE qae (pv 0))) qab))) qab)))
   (qad (qai (qa5 (qaa qaj (qaa (pv 4) (qaa (pv 5) qab)))))))),?_⟩
 refine rdg (σ':=[some x0,some x1,some x2,some x3,none,none]) rfl ?_
 obtain ⟨x,y,s,t,rfl,rfl,rfl,rfl,hx,hy,q⟩:=h
 have px:2^x≤256:=yag (n:=2) (by decide) (show x≤8 by omega)
 have py:2^y≤256:=yag (n:=2) (by decide) (show y≤8 by omega)
 walk_at "rd"
 rw [qbn,qbn,qdF,qdF,qdF,qdF]
 refine ⟨qa9 (by omega) (by omega) (by decide) (by decide),qa9 (by omega) (by omega) (by decide) (by decide),qaq (by simp),fun p0 hp0=>?_⟩
 generalize g0:upd H p0 _=G0
 have a0:=qao g0
 have t0:=qah g0 hp0
 refine ⟨p0,nI [s|||2^x,t|||2^y],rfl,.inl (SqL.of a0),by simp,fun p1 ms hp1 m1 m2=>?_⟩
 obtain ⟨ys,rfl,py1⟩:=qlV m1
 generalize g1:upd G0 p1 _=G1
 have a1:=qao g1
 have t1:=t0.trans (qah g1 hp1)
 refine ⟨qa9 (by omega) (by omega) (by decide) (by decide),qa9 (by omega) (by omega) (by decide) (by decide),qaq (by simp),fun p2 hp2=>?_⟩
 generalize g2:upd G1 p2 _=G2
 have a2:=qao g2
 have t2:=t1.trans (qah g2 hp2)
 refine ⟨p2,nI [s|||2^y,t|||2^x],rfl,.inl (SqL.of a2),by simp,fun p3 ms hp3 m1' m2'=>?_⟩
 obtain ⟨ns,rfl,py2⟩:=qlV m1'
 generalize g3:upd G2 p3 _=G3
 have a3:=qao g3
 have t3:=t2.trans (qah g3 hp3)
 have a1':=qah g3 hp3 _ _ (qah g2 hp2 _ _ a1)
 refine ⟨qaq (by simp),fun p4 hp4=>?_⟩
 exact q p4 p1 p3 ys ns _ (t3.trans (qar.new hp4)) (qau t3 hp4) (qau t0 hp1) (qau t2 hp3) (qcs hp3 (qah g2 hp2 _ _ a1)) qaf (qar.new hp4 _ _ a1') (qar.new hp4 _ _ a3) py1 py2 (qtf m2) (qtf m2')
abbrev qci:Stmt:=top 74
def qc5:qam ["weights", "yes", "no", "bar"] ["weights", "yes", "no"] (qag qci):=fsc
def quS (ws ys ns:List Nat) (r:V):Prop:=(∃b:Nat,r = .int (b:Nat)∧(∀s∈ys,b≤Fam.wt ws s)∧(∀t∈ns,Fam.wt ws t<b)∧(b=0∨∃t∈ns,b=Fam.wt ws t+1))∨r = .non∧∃s∈ys,∃t∈ns,Fam.wt ws s≤Fam.wt ws t
def qpl (K:W.Frag):Sp:=sp3 fun x y z H Q=>∃(p py pn:Addr) (ws ys ns:List Nat),x = .ref p∧H p=some (.lst (nV ws))∧ws.length≤8∧y = .ref py∧H py=some (.lst (nV ys))∧(∀b∈ys,b<2^ws.length)∧ys.length≤1000∧z = .ref pn∧H pn=some (.lst (nV ns))∧(∀b∈ns,b<2^ws.length)∧ns.length≤1000∧∀(r:V) (H':Hp),qar H H'→quS ws ys ns r→Q r H'
def qf5 {f:Addr} {fd:FuncData} (F:Fun K "bar_between" "bar_between" qci f fd) (T:Txt mg) {f_36:Addr} {fd_36:FuncData} (C_36:Cal P w K mg base "weight_of" 2 ["weights", "one"] (qf7 K) f_36 fd_36):qaQ P w K mg base CX0 3 f fd ["weights", "yes", "no"] (qpl K):=by
 have sc:=qc5
 refine F.ok qc5 (fun vs H Q E h=>by obtain ⟨_,_,_,rfl,_⟩:=h;rfl) (fun cdv A outer s H vs Q E hr h=>?_)
 obtain ⟨x0,x1,x2,rfl,h⟩:=h
 refine ⟨_,(qac (qat (i:=3) sc.nd rfl (Or.inl rfl) (qap qa4 (qhY (qmt (K:=K) rfl rfl) (by rfl) T.n_max PyProof.Rows.boot_max (qaa (qaG (N:=["s", "weights"]) (nt:=1) (caps:=[0]) qaC rfl (qaJ (pv 2)) (fun _ _ _ _ _=>(qan (i:=0) (show List.Nodup (α:=Str) ["s", "weights"] from by decide +kernel) rfl (Or.inl rfl))) qaE (fun _ _ _ _ _=>qaF) (fun _ _ _ _ _=>(pec C_36 hr (qaa (pv 1) (qaa (pv 0) qab))))) qab) (qmZ (qqy qpf qae) qo6)) qae))
   (qac (qaB (qal qtd (qhY (qlz (K:=K) rfl rfl) (by rfl) T.n_min PyProof.Rows.boot_min (qaa (qaG (N:=["s", "weights"]) (nt:=1) (caps:=[0]) qaC rfl (qaJ (pv 1)) (fun _ _ _ _ _=>(qan (i:=0) (show List.Nodup (α:=Str) ["s", "weights"] from by decide +kernel) rfl (Or.inl rfl))) qaE (fun _ _ _ _ _=>qaF) (fun _ _ _ _ _=>(pec C_36 hr (qaa (pv 1) (qaa (pv 0) qab))))) qab) (qmZ (pv 3) qo6)) (pv 3) (qas _)) (qad (qai (pv 3))) qak)
   (qad (qai qbJ)))),?_⟩
 refine rdg (σ':=[some x0,some x1,some x2,none]) rfl ?_
 obtain ⟨p,py,pn,ws,ys,ns,rfl,f1,hl,rfl,f2,hy,ly,rfl,f3,hn,ln,q⟩:=h
 walk_at "rd"
 refine ⟨⟨_,SqL.of f3⟩,qbQ (fs:=ns) (fun _=>true) (fun s => .int (Fam.wt ws s:Nat)) (SqL.of f3) (by omega) (fun s hs H1 sm R R' r1 r2=>?_) fun G1 p1 t1 hp1=>?_⟩
 · (try walk_at "rd")
   exact ⟨_,_,rfl,p,ws,s,rfl,sm _ _ f1,hl,rfl,hn s hs,fun H2 s2=>r1 rfl _ s2⟩
 have e:∀L:List Nat,(L.filter fun _=>true).map (fun s=>V.int (Fam.wt ws s:Nat))=(L.map fun s=>(Fam.wt ws s:Int)).map V.int:=fun L=>by
   rw [ygf.mpr fun _ _=>rfl,ycv]
   rfl
 rw [e]
 have t1':=t1.trans (qar.new (o := .lst ((ns.map fun s=>(Fam.wt ws s:Int)).map V.int)) hp1)
 generalize g1:upd G1 p1 _=G2
 have a1:=qao g1
 rw [g1] at t1'
 refine ⟨p1,_,_,rfl,rfl,SqL.of a1,fun M hM=>?_⟩
 (try walk_at "rd")
 have M0:∃b:Nat,M+1=(b:Nat)∧(∀t∈ns,Fam.wt ws t<b)∧(b=0∨∃t∈ns,b=Fam.wt ws t+1):=by
   rcases hM with ⟨h0,rfl⟩ | ⟨h1,h2⟩
   · have:ns=[]:=ygo.mp h0
     exact ⟨0,rfl,(fun t ht=>by rw [this] at ht;cases ht),.inl rfl⟩
   · obtain ⟨t,ht,rfl⟩:=ybt.mp h1
     refine ⟨Fam.wt ws t+1,by omega,fun u hu=>?_,.inr ⟨t,ht,rfl⟩⟩
     have:=h2 _ (ybt.mpr ⟨u,hu,rfl⟩)
     omega
 obtain ⟨b,eb,b1,b2⟩:=M0
 rw [eb]
 refine ⟨⟨_,SqL.of (t1' _ _ f2)⟩,qbQ (fs:=ys) (fun _=>true) (fun s => .int (Fam.wt ws s:Nat)) (SqL.of (t1' _ _ f2)) (by omega) (fun s hs H1 sm R R' r1 r2=>?_) fun G3 p3 t3 hp3=>?_⟩
 · (try walk_at "rd")
   exact ⟨_,_,rfl,p,ws,s,rfl,sm _ _ (t1' _ _ f1),hl,rfl,hy s hs,fun H2 s2=>r1 rfl _ s2⟩
 rw [e]
 generalize g3:upd G3 p3 _=G4
 have a3:=qao g3
 have t4:=(t1'.trans t3).trans (qah g3 hp3)
 refine ⟨p3,_,_,rfl,rfl,SqL.of a3,fun L hL=>?_⟩
 (try walk_at "rd")
 refine qjy (fun hc=>?_) fun hc=>?_
 · refine q _ _ t4 (.inl ⟨b,rfl,fun s hs=>?_,b1,b2⟩)
   rcases hL with ⟨h0,rfl⟩ | ⟨h1,h2⟩
   · have:ys=[]:=ygo.mp h0
     rw [this] at hs
     cases hs
   · have:=h2 _ (ybt.mpr ⟨s,hs,rfl⟩)
     omega
 · rcases hL with ⟨h0,rfl⟩ | ⟨h1,h2⟩
   · exact absurd (Int.le_refl _) hc
   · obtain ⟨s,hs,rfl⟩:=ybt.mp h1
     rcases b2 with rfl | ⟨t,ht,rfl⟩
     · exact absurd (yew _) hc
     · exact q _ _ t4 (.inr ⟨rfl,s,hs,t,ht,by omega⟩)
abbrev qbi:Stmt:=top 72
def qbA:qam ["length", "most", "told", "first"] ["length", "most"] (qag qbi):=fsc
def qrK (K:W.Frag):Nat→Sp
 | 0=>sp2 fun _ _ _ _=>False
 | n+1=>sp2 fun x y H Q=>∃l M:Nat,x = .int (l:Nat)∧l≤n∧l≤5∧y = .int ((M:Int)-1)∧M≤6∧∀(p':Addr) (ps:List Addr) (H':Hp),qar H H'→qgD H H' p' (fl l M) ps→Q (.ref p') H'
def qoK {H0 H:Hp} {p:Addr} {LL MM:List (List Nat)} {ps rs:List Addr} (h:qgD H0 H p LL ps) (hl:rs.length=MM.length) (hr:∀(j:Nat) (r:Addr) (L:List Nat),rs[j]?=some r→MM[j]?=some L→H0 r=none∧H r=some (.lst (nV L))) (hne:∀q∈ps,q≠p) (hne2:∀q∈rs,q≠p) :
   qgD H0 (upd H p (.lst (ps.map V.ref++rs.map V.ref))) p (LL++MM) (ps++rs):=by
 refine ⟨h.1,by rw [qaf,ycu],by rw [ydq,ydq,h.2.2.1,hl],fun j q M h1 h2=>?_⟩
 by_cases hj:j<ps.length
 · rw [yfe hj] at h1
   rw [yfe (by rw [←h.2.2.1];exact hj)] at h2
   have:=h.2.2.2 j q M h1 h2
   rw [qay (hne q (yck h1))]
   exact this
 · rw [yfc (by omega)] at h1
   rw [yfc (by rw [←h.2.2.1];omega),←h.2.2.1] at h2
   have:=hr _ q M h1 h2
   rw [qay (hne2 q (yck h1))]
   exact this
def qqH (n i:Nat):fl (n+1) (i+1)=fl (n+1) i++(fl n i).map (i::·):=by
 show (List.range (i+1)).flatMap _=(List.range i).flatMap _++_
 rw [yds,List.flatMap_append]
 simp
def qk4 {n M:Nat} (hn:n≤5) (hM:M≤6):(fl n M).length≤7776:=ydc (qo0 hM) (yag (n:=6) (by decide) hn)
def qeN {f:Addr} {fd:FuncData} (F:Fun K "falling_lists" "falling_lists" qbi f fd) (T:Txt mg)  (n:Nat) (C_08:Cal P w K mg base "falling_lists" (1+n) ["length", "most"] (qrK K n) f fd):qaQ P w K mg base CX0 (1+n+1) f fd ["length", "most"] (qrK K (n+1)):=by
 have sc:=qbA
 refine F.ok qbA (fun vs H Q E h=>by obtain ⟨_,_,rfl,_⟩:=h;rfl) (fun cdv A outer s H vs Q E hr h=>?_)
 obtain ⟨x0,x1,rfl,h⟩:=h
 refine ⟨_,(qac (qaB (qal (qax (K:=K) rfl hr.units0) (pv 0) qae (qas _)) (qad (qai (qaH (qaa (qaH qab) qab)))) qak)
   (qac (qat (i:=2) sc.nd rfl (Or.inl rfl) (qaH qab))
   (qac (qaY PassesOwn.never rfl (qaI (by rfl) T.n_range (qaa (qap qa4 (pv 1) qae) qab)) (qan (i:=3) sc.nd rfl (Or.inr rfl)) (qad (qb3 (qbf yhd PySem.F.slot_list_extend PySem.F.type_list_extend qk7 (pv 2) (qaa (qaG (N:=["others", "first"]) (nt:=1) (caps:=[3]) qaC rfl (qc0 (K:=K) rfl (qoW C_08 hr (by omega) (by rfl) (qaa (qap qfS (pv 0) qae) (qaa (qap qfS (pv 3) qae) qab)))) (fun _ _ _ _ _=>(qan (i:=0) (show List.Nodup (α:=Str) ["others", "first"] from by decide +kernel) rfl (Or.inl rfl))) qaE (fun _ _ _ _ _=>qaF) (fun _ _ _ _ _=>(qap (qbe (K:=K) rfl) (qaH (qaa (pv 1) qab)) (pv 0)))) qab)))))
   (qad (qai (pv 2)))))),?_⟩
 refine rdg (σ':=[some x0,some x1,none,none]) rfl ?_
 obtain ⟨l,M,rfl,hl,hl5,rfl,hM,q⟩:=h
 walk_at "rd"
 by_cases c:l=0
 · subst c
   rw [if_pos (by rfl)]
   refine ⟨qaq (by simp),fun p1 hp1=>⟨qaq (by simp),fun p2 hp2=>?_⟩⟩
   have n12:p1≠p2:=qcs hp2 (show upd H p1 (.lst []) p1=some (.lst []) from qaf)
   refine q p2 [p1] _ ((qar.new hp1).trans (qar.new hp2)) ⟨qau (qar.new hp1) hp2,qaf,rfl,fun j r L h1 h2=>?_⟩
   match j with
   | 0 =>
     cases h1
     cases h2
     exact ⟨hp1,by rw [qay n12,qaf];rfl⟩
   | j+1=>cases h1
 obtain ⟨l',rfl⟩:∃l',l=l'+1:=⟨l-1,by omega⟩
 obtain ⟨n',rfl⟩:∃n',n=n'+1:=⟨n-1,by omega⟩
 rw [if_neg (by omega)]
 refine ⟨qaq (by simp),fun p0 hp0=>?_⟩
 generalize g0:upd H p0 _=G0
 have a0:=qao g0
 have t0:=qah g0 hp0
 rw [show ((M:Int)-1+1)=((M:Nat):Int) by omega]
 refine ⟨by omega,by omega,?_⟩
 rw [yfg]
 refine qdb (fun i σ H3=>∃(v:Option V) (ps:List Addr),σ=[some (.int ((l'+1:Nat))),some (.int ((M:Int)-1)),some (.ref p0),v]∧qar H H3∧qgD H H3 p0 (fl (l'+1) i) ps∧∀r∈ps,r≠p0) ⟨none,[],rfl,t0,⟨hp0,a0,rfl,fun j r L z=>(by cases z)⟩,fun r hr=>(by cases hr)⟩ ?_ ?_
 · rintro i σ H3 hi ⟨v,ps,rfl,s3,L3,hne⟩ N hN
   (try walk_at "rd")
   refine ⟨qcY L3.2.1,_,_,rfl,l',i,congrArg V.int (by omega),by omega,by omega,rfl,by omega,fun p5 qs H5 s5 L5=>?_⟩
   have lq:qs.length≤7776:=by rw [L5.2.2.1];exact qk4 (by omega) (by omega)
   have lp:ps.length≤7776:=by rw [L3.2.2.1];exact qk4 hl5 (by omega)
   refine ⟨p5,rfl,⟨_,SqL.of L5.2.1⟩,qe3 (xs:=qs.map V.ref) (fun k ys H6=>∃rs:List Addr,ys=rs.map V.ref∧rs.length=k∧qar H5 H6∧∀(j:Nat) (r:Addr) (L:List Nat),rs[j]?=some r→(fl l' i)[j]?=some L→H5 r=none∧H6 r=some (.lst (nV (i::L)))) ⟨[],rfl,rfl,qar.refl _,fun j r L z=>(by cases z)⟩ (qaq (by rw [ycd];omega)) (fun k ys H6 hk ⟨rs,e1,e2,s6,_⟩=>⟨SqL.of (s6 _ _ L5.2.1),by rw [e1,ycd];omega⟩) (fun k z ys H6 hz ⟨rs,e1,e2,s6,h6⟩ R R' r1 r2=>?_) fun ys H6 ⟨rs,e1,e2,s6,h6⟩ pz hpz=>?_⟩
   · obtain ⟨qa,ea,rfl⟩:=qg4 hz
     obtain ⟨qa',La,ea',eL,mL,aq⟩:=L5.at (ycl.mp ea).1
     rw [ea] at ea'
     cases ea'
     have aq:=s6 _ _ aq
     have lL:=qga mL
     (try walk_at "rd")
     refine ⟨qaq (by simp),fun p7 hp7=>?_⟩
     generalize g7:upd H6 p7 _=G7
     have a7:G7 p7=some (.lst (nV [i])):=qao g7
     have aq:=qah g7 hp7 _ _ aq
     refine ⟨p7,qa,_,_,rfl,rfl,SqL.of a7,SqL.of aq,qaq (by rw [qa1,qa1,lL];simp;omega),fun p8 hp8=>?_⟩
     rw [qfr]
     have s8:=(s6.trans (qah g7 hp7)).trans (qar.new (o := .lst (nV ([i]++La))) hp8)
     refine r1 _ _ ⟨rs++[p8],by rw [e1,ycu];rfl,by simp [e2],s8,fun j r L h1 h2=>?_⟩
     have hj:j<rs.length∨j=rs.length:=by
       have:=(ycl.mp h1).1
       simp at this
       omega
     rcases hj with hj | hj
     · rw [yfe hj] at h1
       obtain ⟨b1,b2⟩:=h6 j r L h1 h2
       exact ⟨b1,(qar.new hp8) _ _ (qah g7 hp7 _ _ b2)⟩
     · subst hj
       rw [yfc (yba _),ygh] at h1
       cases h1
       rw [e2,eL] at h2
       cases h2
       exact ⟨qau (s6.trans (qah g7 hp7)) hp8,qaf⟩
   · generalize gz:upd H6 pz _=Gz
     have az:=qao gz
     have sz:=qah gz hpz
     rw [e1] at az
     have sH:=(s3.trans s5).trans (s6.trans sz)
     have b0:=((s5.trans s6).trans sz) _ _ L3.2.1
     have nz:pz≠p0:=Ne.symm (qcs hpz ((s5.trans s6) _ _ L3.2.1))
     have nrs:∀r∈rs,r≠p0:=fun r hr z=>by
       obtain ⟨j,hj,e⟩:=ygi.mp hr
       have hj2:j<(fl l' i).length:=by rw [←L5.2.2.1];rw [ycd] at e2;omega
       have:=(h6 j r _ (by rw [ycj hj,e]) (ycj hj2)).1
       rw [z,s5 _ _ L3.2.1] at this
       cases this
     refine ⟨p0,pz,_,_,rfl,rfl,b0,az,qaq (by rw [ycd,ycd];rw [ycd] at e2;omega),?_⟩
     refine hN _ _ ⟨_,ps++rs,rfl,sH.upd hp0,?_,fun r hr=>?_⟩
     · rw [qqH]
       refine qoK (L3.mono ((s5.trans s6).trans sz)) ?_ (fun j r L h1 h2=>?_) hne fun r hr=>?_
       · rw [e2,ycd,ycd,L5.2.2.1]
       · rw [yco] at h2
         cases eL:(fl l' i)[j]? with
         | none=>rw [eL] at h2;cases h2
         | some L' =>
           rw [eL] at h2
           cases h2
           obtain ⟨b1,b2⟩:=h6 j r L' h1 eL
           exact ⟨qau (s3.trans s5) b1,sz _ _ b2⟩
       · exact nrs r hr
     · rcases yaw.mp hr with z | z
       · exact hne r z
       · exact nrs r z
 · rintro σ H3 ⟨v,ps,rfl,s3,L3,hne⟩
   (try walk_at "rd")
   exact q p0 ps _ s3 L3
def qfu {f:Addr} {fd:FuncData} (F:Fun K "falling_lists" "falling_lists" qbi f fd):qaQ P w K mg base CX0 (1+0) f fd ["length", "most"] (qrK K 0):=by
 refine F.ok (k:=0) qbA (fun vs H Q E h=>?_) (fun cdv A outer s H vs Q E hr h=>?_)
 · obtain ⟨_,_,rfl,h⟩:=h
   exact absurd h id
 · obtain ⟨_,_,rfl,h⟩:=h
   exact absurd h id
abbrev qdi:Stmt:=top 73
def qeL:qam ["many", "lists", "falling", "weights", "names", "weight", "k"] ["many", "lists", "falling"] (qag qdi):=fsc
def qsE (L:List Nat) (j b:Nat):(nV L).set j (V.int (b:Nat))=nV (L.set j b):=by
 rw [nV,nV,nI,nI,yhj,yhj]
def qkh (m:Nat):(List.replicate ((m:Int).toNat) [V.int 0]).flatten=nV (List.replicate m 0):=by
 rw [yfg]
 induction m with
 | zero=>rfl
 | succ m ih=>rw [yfl,yfm,ih,yfl];rfl
def ql4 (K:W.Frag):Sp:=sp3 fun x y z H Q=>∃(m:Nat) (p:Addr) (ps:List Addr) (LL:List (List Nat)) (pf:Addr) (F:List Nat),x = .int (m:Nat)∧m≤8∧y = .ref p∧H p=some (.lst (ps.map V.ref))∧ps.length=LL.length∧(∀(j:Nat) (r:Addr) (L:List Nat),ps[j]?=some r→LL[j]?=some L→H r=some (.lst (nV L)))∧z = .ref pf∧H pf=some (.lst (nV F))∧F.length=LL.length∧LL.flatten.Nodup∧(∀k∈LL.flatten,k<m)∧∀(p':Addr) (N:List Nat) (H':Hp),H p'=none→qar H H'→H' p'=some (.lst (nV N))→Gvn m LL F N→Q (.ref p') H'
def qkE {LL:List (List Nat)} (h:LL.flatten.Nodup) {i j:Nat} (hij:j<i) {L M:List Nat} (e1:LL[j]?=some L) (e2:LL[i]?=some M) {k:Nat} (h1:k∈L) (h2:k∈M):False:=by
 unfold List.Nodup at h
 rw [ygk] at h
 obtain ⟨l1,e1⟩:=ycl.mp e1
 obtain ⟨l2,e2⟩:=ycl.mp e2
 have:=ycm.mp h.2 j i l1 l2 hij
 rw [e1,e2] at this
 exact this k h1 k h2 rfl
def qih {f:Addr} {fd:FuncData} (F:Fun K "given_out" "given_out" qdi f fd) (T:Txt mg)  : qaQ P w K mg base CX0 1 f fd ["many", "lists", "falling"] (ql4 K):=by
 have sc:=qeL
 refine F.ok qeL (fun vs H Q E h=>by obtain ⟨_,_,_,rfl,_⟩:=h;rfl) (fun cdv A outer s H vs Q E hr h=>?_)
 obtain ⟨x0,x1,x2,rfl,h⟩:=h
 refine ⟨_,(qac (qat (i:=3) sc.nd rfl (Or.inl rfl) (qap qrE (qaH (qaa qae qab)) (pv 0)))
   (qac (qaY PassesOwn.never rfl (qrJ (K:=K) rfl (by rfl) T.n_zip (qaa (pv 1) (qaa (pv 2) qab))) (qgd (n:=2) rfl (qbd (qan (i:=4) sc.nd rfl (Or.inl rfl)) (qbd (qan (i:=5) sc.nd rfl (Or.inl rfl)) qel))) (qad (qaY PassesOwn.never rfl (qaJ (pv 4)) (qan (i:=6) sc.nd rfl (Or.inl rfl)) (qad (qkM (pv 5) (qpi (pv 3) (pv 6) qjt))))))
   (qad (qai (pv 3))))),?_⟩
 refine rdg (σ':=[some x0,some x1,some x2,none,none,none,none]) rfl ?_
 obtain ⟨m,p,ps,LL,pf,F,rfl,hm,rfl,f1,lps,hps,rfl,f2,lF,nd,hlt,q⟩:=h
 walk_at "rd"
 refine ⟨qaq (by simp),fun pz hpz=>?_⟩
 generalize gz:upd H pz _=Gz
 have az:=qao gz
 have tz:=qah gz hpz
 refine ⟨pz,m,_,rfl,rfl,az,by omega,by omega,qaq (by simp;omega),fun p0 hp0=>?_⟩
 rw [qkh]
 generalize g0:upd Gz p0 _=G0
 have a0:=qao g0
 have t0:=tz.trans (qah g0 hp0)
 have hp0':=qau tz hp0
 (try walk_at "rd")
 refine ⟨_,_,⟨rfl,rfl⟩,_,SqL.of (t0 _ _ f1),_,SqL.of (t0 _ _ f2),?_⟩
 refine qsH (xs:=ps.map V.ref) (ys:=nV F) (by rw [qa1,ycd];omega) (fun i σ H3=>∃(v1 v2 v3:Option V) (N:List Nat),σ=[some (.int (m:Nat)),some (.ref p),some (.ref pf),some (.ref p0),v1,v2,v3]∧qar H H3∧H3 p0=some (.lst (nV N))∧N.length=m∧∀(j:Nat) (L:List Nat) (v:Nat),j<i→LL[j]?=some L→F[j]?=some v→∀k∈L,N.getD k 0=v) ⟨none,none,none,_,rfl,t0,a0,by simp,fun j L v z=>absurd z (ygp j)⟩ (fun i σ H3 _ ⟨_,_,_,_,_,s3,_⟩=>⟨SqL.of (s3 _ _ f1),SqL.of (s3 _ _ f2)⟩) ?_ ?_
 · rintro i x y σ H3 t hx hy ⟨v1,v2,v3,N0,rfl,s3,b0,lN,g3⟩ ht N hN
   obtain ⟨qa,ea,rfl⟩:=qg4 hx
   obtain ⟨w,ew,rfl⟩:=qjL hy
   have hi:i<LL.length:=by rw [←lps];exact (ycl.mp ea).1
   have eL:=ycj hi
   generalize LL[i]=La at eL
   have aq:=s3 _ _ (hps i qa La ea eL)
   have nqa:qa≠p0:=qcs hp0' (hps i qa La ea eL)
   (try walk_at "rd")
   generalize g4:upd H3 t _=G4
   have a4:=qao g4
   have s4:=s3.trans (qah g4 ht)
   have b4:=qah g4 ht _ _ b0
   have aq4:=qah g4 ht _ _ aq
   refine ⟨_,SqT.of a4,rfl,_,_,rfl,_,_,rfl,rfl,qa,rfl,⟨_,SqL.of aq4⟩,?_⟩
   refine qfX (fs:=La) (fun k σ H5=>∃(v3:Option V) (N1:List Nat),σ=[some (.int (m:Nat)),some (.ref p),some (.ref pf),some (.ref p0),some (.ref qa),some (.int (w:Nat)),v3]∧qar H H5∧H5 p0=some (.lst (nV N1))∧H5 qa=some (.lst (nV La))∧N1.length=m∧(∀(j:Nat) (L:List Nat) (v:Nat),j<i→LL[j]?=some L→F[j]?=some v→∀k∈L,N1.getD k 0=v)∧∀k'∈La.take k,N1.getD k' 0=w) ⟨_,N0,rfl,s4,b4,aq4,lN,g3,fun k' z=>(by simp at z)⟩ (fun k σ H5 _ ⟨_,_,_,_,_,e,_⟩=>SqL.of e) ?_ ?_
   · rintro k b σ H5 hb ⟨v,N1,rfl,s5,b5,aq5,lN1,g5,g6⟩ N2 hN2
     (try walk_at "rd")
     have bm:b∈La:=yck hb
     have hbm:b<m:=hlt b (ygj.mpr ⟨La,yck eL,bm⟩)
     refine ⟨p0,_,_,b,rfl,rfl,b5,qpo (by rw [qa1];omega),?_⟩
     rw [qsE]
     have gs:∀k',(N1.set b w).getD k' 0=if b=k' then w else N1.getD k' 0:=fun k'=>by
       rw [yci,List.getElem?_set,yci]
       by_cases c:b=k'
       · rw [if_pos c,if_pos c,if_pos (by omega)];rfl
       · rw [if_neg c,if_neg c]
     refine hN2 _ _ ⟨_,N1.set b w,rfl,s5.upd hp0',qaf,by rw [qay nqa];exact aq5,by simp [lN1],fun j L v hj h1 h2 k' hk'=>?_,fun k' hk'=>?_⟩
     · rw [gs,if_neg (fun z:b=k'=>qkE nd hj h1 eL hk' (z▸bm))]
       exact g5 j L v hj h1 h2 k' hk'
     · rw [gs]
       by_cases c:b=k'
       · rw [if_pos c]
       · rw [if_neg c]
         rw [ygr,hb] at hk'
         rcases yaw.mp hk' with z | z
         · exact g6 k' z
         · exact absurd (show b=k' by have z':k'=b:=(by simpa using z);exact z'.symm) c
   · rintro σ H5 ⟨v,N1,rfl,s5,b5,aq5,lN1,g5,g6⟩
     refine hN _ _ ⟨_,_,_,N1,rfl,s5,b5,lN1,fun j L v hj h1 h2 k hk=>?_⟩
     by_cases c:j=i
     · subst c
       rw [eL] at h1
       rw [ew] at h2
       cases h1
       cases h2
       exact g6 k (by rw [ydi];exact hk)
     · exact g5 j L v (by omega) h1 h2 k hk
 · rintro σ H3 ⟨v1,v2,v3,N0,rfl,s3,b0,lN,g3⟩
   (try walk_at "rd")
   exact q p0 N0 _ hp0' s3 b0 ⟨lN,fun j L v h1 h2=>g3 j L v (by rw [ycd,lps];exact (ycl.mp h1).1) h1 h2⟩
abbrev qfQ:Stmt:=top 71
def qf6:qam ["many", "family", "lists", "yes", "no", "falling", "weights", "bar"] ["many", "family", "lists"] (qag qfQ):=fsc
/-- the first falling list that fits,and its bar -/
def WgF (m:Nat) (fs N:List Nat) (b:Nat):Prop:=∃(j:Nat) (F:List Nat),(fl (rkd (Fam.trns m (Fam.sayP fs))).length 6)[j]?=some F∧Gvn m (rkd (Fam.trns m (Fam.sayP fs))) F N∧(∀s∈Fam.mins fs,b≤Fam.wt N s)∧(∀t∈Fam.rsts m (Fam.hits m fs),Fam.wt N t<b)∧(b=0∨∃t∈Fam.rsts m (Fam.hits m fs),b=Fam.wt N t+1)∧∀(j':Nat) (G:List Nat),j'<j→(fl (rkd (Fam.trns m (Fam.sayP fs))).length 6)[j']?=some G→∀M,Gvn m (rkd (Fam.trns m (Fam.sayP fs))) G M→∃s∈Fam.mins fs,∃t∈Fam.rsts m (Fam.hits m fs),Fam.wt M s≤Fam.wt M t
def qqT {m:Nat} {fs N N':List Nat} {b b':Nat} (h:WgF m fs N b) (h':WgF m fs N' b'):N=N'∧b=b':=by
 obtain ⟨j,F,e,g,h1,h2,h3,h4⟩:=h
 obtain ⟨i,F',e',g',h1',h2',h3',h4'⟩:=h'
 have no:∀{N:List Nat} {b:Nat},(∀s∈Fam.mins fs,b≤Fam.wt N s)→(∀t∈Fam.rsts m (Fam.hits m fs),Fam.wt N t<b)→¬∃s∈Fam.mins fs,∃t∈Fam.rsts m (Fam.hits m fs),Fam.wt N s≤Fam.wt N t:=fun a c ⟨s,hs,t,ht,hl⟩=>by
   have:=a s hs
   have:=c t ht
   omega
 have eij:j=i:=by
   rcases Nat.lt_trichotomy j i with z | z | z
   · exact absurd (h4' j F z e N g) (no h1 h2)
   · exact z
   · exact absurd (h4 i F' z e' N' g') (no h1' h2')
 subst eij
 rw [e] at e'
 cases e'
 have lF:F.length=(rkd (Fam.trns m (Fam.sayP fs))).length:=qga (yck e)
 have ll:=qbc m (Fam.sayP fs)
 have eN:N=N':=qo2 lF (by rw [ll];exact g) (by rw [ll];exact g')
 subst eN
 refine ⟨rfl,?_⟩
 rcases h3 with rfl | ⟨t,ht,rfl⟩<;>rcases h3' with rfl | ⟨t',ht',rfl⟩
 · rfl
 · exact absurd (h2 t' ht') (ygp _)
 · exact absurd (h2' t ht) (ygp _)
 · have:=h2 t' ht'
   have:=h2' t ht
   omega
def qps:∀{n M:Nat} {F:List Nat},F∈fl n M→∀x∈F,x<M
 | 0,_,F,h,x,hx=>by
   have:F=[]:=by simpa [fl] using h
   rw [this] at hx
   cases hx
 | n+1,M,F,h,x,hx=>by
   obtain ⟨a,ha,h1⟩:=ycz.mp h
   obtain ⟨G,h2,rfl⟩:=ybt.mp h1
   have ha:=ybk.mp ha
   rcases ybg.mp hx with rfl | hx
   · exact ha
   · exact ybo (qps h2 x hx) ha
def qmJ {c:Nat}:∀{l:List Nat},(∀x∈l,x≤c)→l.sum≤l.length*c
 | [],_=>by simp
 | a::l,h=>by
   have h1:=qmJ (l:=l) fun x hx=>h x (ybh _ hx)
   have h2:=h a ybe
   rw [ycg,ycb,yfo]
   omega
def qqL {m:Nat} {fs N:List Nat} {b:Nat} (h:WgF m fs N b):N.length=m∧(∀n∈N,n≤5)∧b≤41:=by
 obtain ⟨j,F,e,g,h1,h2,h3,h4⟩:=h
 have lo:∀n∈N,n≤5:=fun n hn=>by
   obtain ⟨k,hk,rfl⟩:=ygi.mp hn
   have km:k∈(rkd (Fam.trns m (Fam.sayP fs))).flatten:=qc2.mpr (by rw [qbc];rw [g.1] at hk;exact hk)
   obtain ⟨L,hL,kL⟩:=ygj.mp km
   obtain ⟨i,hi,rfl⟩:=ygi.mp hL
   have hF:i<F.length:=by rw [qga (yck e)];exact hi
   have:=g.2 i _ F[i] (ycj hi) (ycj hF) k kL
   rw [yci,ycj hk] at this
   have z:=qps (yck e) F[i] (ydp hF)
   have this:N[k]=F[i]:=this
   omega
 refine ⟨g.1,lo,?_⟩
 rcases h3 with rfl | ⟨t,_,rfl⟩
 · decide
 have:Fam.wt N t≤((Fam.nms 8 t).map fun k=>N.getD k 0).length*5:=qmJ fun x hx=>by
   obtain ⟨k,_,rfl⟩:=ybt.mp hx
   rw [yci]
   cases ek:N[k]? with
   | none=>exact ybz _
   | some n=>exact lo n (yck ek)
 have l8:(Fam.nms 8 t).length≤8:=ydc (ygc _ _) (by simp)
 rw [ycd] at this
 omega
def qrP (K:W.Frag):Sp:=sp3 fun x y z H Q=>∃(m:Nat) (p pl:Addr) (fs:List Nat) (ps:List Addr) (H0:Hp),x = .int (m:Nat)∧m≤5∧y = .ref p∧H p=some (.lst (nV fs))∧fs.length≤63∧fs.Pairwise (· < ·)∧(∀b∈fs,b<2^m)∧qiq m (Fam.sayP fs) m 0∧z = .ref pl∧qgD H0 H pl (rkd (Fam.trns m (Fam.sayP fs))) ps ∧
 ∀(t pw:Addr) (N:List Nat) (b:Nat) (H':Hp),qar H H'→H t=none→H pw=none→H' t=some (.tup [.str "weights",.ref pw,.int (b:Nat)])→H' pw=some (.lst (nV N))→N.length=m→(∀s,s<2^m→Fam.sayP fs s=decide (b≤Fam.wt N s))→WgF m fs N b→Q (.ref t) H'
def quN {A B:Prop} [Decidable (V.non=V.non)] (h:A):if V.non=V.non then A else B:=by
 rw [if_pos rfl]
 exact h
def quU {b:Int} {A B:Prop} [Decidable (V.int b=V.non)] (h:B):if V.int b=V.non then A else B:=by
 rw [if_neg (fun z=>by cases z)]
 exact h
def qkI {f:Addr} {fd:FuncData} (F:Fun K "weighed" "weighed" qfQ f fd) (T:Txt mg) {f_62:Addr} {fd_62:FuncData} (C_62:Cal P w K mg base "least" 3 ["some"] (qmU K) f_62 fd_62) {f_51:Addr} {fd_51:FuncData} (C_51:Cal P w K mg base "noes_by" 4 ["many", "family"] (qj7 K) f_51 fd_51) {f_08:Addr} {fd_08:FuncData} (C_08:Cal P w K mg base "falling_lists" 7 ["length", "most"] (qrK K 6) f_08 fd_08) {f_37:Addr} {fd_37:FuncData} (C_37:Cal P w K mg base "given_out" 1 ["many", "lists", "falling"] (ql4 K) f_37 fd_37) {f_20:Addr} {fd_20:FuncData} (C_20:Cal P w K mg base "bar_between" 3 ["weights", "yes", "no"] (qpl K) f_20 fd_20):qaQ P w K mg base CX0 8 f fd ["many", "family", "lists"] (qrP K):=by
 have sc:=qf6
 refine F.ok qf6 (fun vs H Q E h=>by obtain ⟨_,_,_,rfl,_⟩:=h;rfl) (fun cdv A outer s H vs Q E hr h=>?_)
 obtain ⟨x0,x1,x2,rfl,h⟩:=h
 refine ⟨_,(qac (qat (i:=3) sc.nd rfl (Or.inl rfl) (pec C_62 hr (qaa (pv 1) qab)))
   (qac (qat (i:=4) sc.nd rfl (Or.inl rfl) (pec C_51 hr (qaa (pv 0) (qaa (pv 1) qab))))
   (qad (qaY PassesOwn.never rfl (qc0 (K:=K) rfl (pec C_08 hr (qaa (qav (qaO (K:=K) rfl) (by rfl) T.n_len PySem.boot_len (qaa (pv 2) qab)) (qaa (qcX T.c_MOST_WEIGHT (by rfl)) qab)))) (qan (i:=5) sc.nd rfl (Or.inl rfl)) (qac (qat (i:=6) sc.nd rfl (Or.inl rfl) (pec C_37 hr (qaa (pv 0) (qaa (pv 2) (qaa (pv 5) qab)))))
   (qac (qat (i:=7) sc.nd rfl (Or.inl rfl) (pec C_20 hr (qaa (pv 6) (qaa (pv 3) (qaa (pv 4) qab)))))
   (qad (qaB (qal qdK (pv 7) qbJ (qas _)) (qad (qai (qa5 (qaa qaj (qaa (pv 6) (qaa (pv 7) qab)))))) qak)))))))),?_⟩
 refine rdg (σ':=[some x0,some x1,some x2,none,none,none,none,none]) rfl ?_
 obtain ⟨m,p,pl,fs,ps,H0,rfl,hm,rfl,f1,lf,hr,hb,hno,rfl,L0,q⟩:=h
 have h8:m≤8:=by omega
 have p8:2^m≤256:=yag (n:=2) (by decide) h8
 have lk:(rkd (Fam.trns m (Fam.sayP fs))).length≤5:=ydc (qqO _) (by rw [qbc];exact hm)
 walk_at "rd"
 refine ⟨_,rfl,p,fs,rfl,SqL.of f1,lf,fun H1 py hpy s1 a1=>?_⟩
 have f1':=s1 _ _ f1
 (try walk_at "rd")
 refine ⟨_,_,rfl,m,p,fs,rfl,hm,rfl,f1',fun H2 pn hpn s2 a2=>?_⟩
 have a1:=s2 _ _ a1
 have s12:=s1.trans s2
 have L2:=L0.mono s12
 rw [qk2 hr] at a1
 (try walk_at "rd")
 generalize eLL:rkd (Fam.trns m (Fam.sayP fs))=LL at *
 refine ⟨_,.inl (SqL.of L2.2.1),?_⟩
 rw [ycd,L2.2.2.1]
 refine ⟨_,_,rfl,LL.length,6,rfl,by omega,by omega,rfl,by omega,fun pa qs H3 s3 L3=>?_⟩
 have lm:(Fam.mins fs).length≤1000:=ydc (Fam.pick_len _ _) (by omega)
 have lo:(Fam.rsts m (Fam.hits m fs)).length≤256:=by
   unfold Fam.rsts
   rw [ygl,ycd]
   exact ydc (Fam.pick_len _ _) (by rw [ygm];exact p8)
 refine ⟨pa,rfl,⟨_,SqL.of L3.2.1⟩,qjP (xs:=qs.map V.ref) (fun i σ H4=>∃(v1 v2 v3:Option V),σ=[some (.int (m:Nat)),some (.ref p),some (.ref pl),some (.ref py),some (.ref pn),v1,v2,v3]∧qar H3 H4∧∀(j:Nat) (F:List Nat),j<i→(fl LL.length 6)[j]?=some F→∀N,Gvn m LL F N→∃s∈Fam.mins fs,∃t∈Fam.rsts m (Fam.hits m fs),Fam.wt N s≤Fam.wt N t) ⟨none,none,none,rfl,qar.refl _,fun j F z=>absurd z (ygp j)⟩ (fun i σ H4 _ ⟨_,_,_,_,s4,_⟩=>SqL.of (s4 _ _ L3.2.1)) ?_ ?_⟩
 · rintro i x σ H4 hx ⟨v1,v2,v3,rfl,s4,g4⟩ N hN
   obtain ⟨qa,ea,rfl⟩:=qg4 hx
   obtain ⟨qa',F,ea',eF,mF,aq⟩:=L3.at (ycl.mp ea).1
   rw [ea] at ea'
   cases ea'
   have aq:=s4 _ _ aq
   have L4:=L2.mono (s3.trans s4)
   have fl1:∀k∈LL.flatten,k<m:=fun k hk=>by
     rw [←eLL] at hk
     have:=qc2.mp hk
     rwa [qbc] at this
   have nd:LL.flatten.Nodup:=by rw [←eLL];exact qfT _
   (try walk_at "rd")
   refine ⟨_,_,_,rfl,m,pl,ps,LL,qa,F,rfl,h8,rfl,L4.2.1,L4.2.2.1,fun j r L h1 h2=>(L4.2.2.2 j r L h1 h2).2,rfl,aq,qga mF,nd,fl1,fun pw W H5 hpw s5 a5 gv=>?_⟩
   (try walk_at "rd")
   have s5':=(s3.trans s4).trans s5
   have lW:W.length=m:=gv.1
   refine ⟨_,_,_,rfl,pw,py,pn,W,Fam.mins fs,Fam.rsts m (Fam.hits m fs),rfl,a5,by omega,rfl,s5' _ _ a1,fun b h=>by rw [lW];exact hb b (Fam.mins_sub hr b h),lm,rfl,s5' _ _ a2,fun b h=>by rw [lW];exact Fam.rsts_lt b h,by omega,fun r H6 s6 hB=>?_⟩
   (try walk_at "rd")
   rcases hB with ⟨b,rfl,b1,b2,b3⟩ | ⟨rfl,hx'⟩
   · refine ⟨rfl,true,by simp,qez ⟨qaq (by simp),fun t ht=>?_⟩⟩
     have s7:=(s12.trans s5').trans s6
     have hW:WgF m fs W b:=by
       unfold WgF
       rw [eLL]
       exact ⟨i,F,eF,gv,b1,b2,b3,g4⟩
     refine q t pw W b _ (s7.trans (qar.new ht)) (qau s7 ht) (qau (s12.trans (s3.trans s4)) hpw) qaf (qar.new ht _ _ (s6 _ _ a5)) lW (fun s hs=>?_) hW
     cases e:Fam.sayP fs s with
     | true =>
       rw [←Fam.say_mins hr] at e
       obtain ⟨c,hc,sc⟩:=Fam.sayP_iff.mp e
       exact (decide_eq_true (ydc (b1 c hc) (Fam.wt_sub sc))).symm
     | false =>
       have:=Fam.held_rests hr hb hs
       rw [e] at this
       obtain ⟨c,hc,sc⟩:=Fam.heldP_iff.mp this
       have h1:=b2 c hc
       have h2:=Fam.wt_sub (ws:=W) sc
       exact (decide_eq_false (by omega)).symm
   · refine ⟨rfl,false,by simp,qc4 ?_⟩
     refine hN _ _ ⟨_,_,_,rfl,(s4.trans s5).trans s6,fun j G hj eG M gM=>?_⟩
     by_cases c:j=i
     · subst c
       rw [eF] at eG
       cases eG
       have:M=W:=by
         rw [←eLL] at gM gv
         have lF:=qga mF
         rw [←eLL] at lF
         have e:=qbc m (Fam.sayP fs)
         exact qo2 lF (by rw [e];exact gM) (by rw [e];exact gv)
       rw [this]
       exact hx'
     · exact g4 j G (by omega) eG M gM
 · rintro σ H4 ⟨v1,v2,v3,rfl,s4,g4⟩
   exfalso
   obtain ⟨F,N,b,lF,pF,F5,gv,hf⟩:=qrC hm (Fam.up_say m fs) hno
   rw [eLL] at lF gv
   have mF:=qo1 (M:=6) pF fun x hx=>by have:=F5 x hx;omega
   rw [lF] at mF
   obtain ⟨j,hj,e⟩:=ygi.mp mF
   have lq:qs.length=(fl LL.length 6).length:=L3.2.2.1
   obtain ⟨s,hs,t,ht,hle⟩:=g4 j F (by rw [ycd];omega) (by rw [ycj hj,e]) N gv
   have s1:Fam.sayP fs s=true:=Fam.sayP_iff.mpr ⟨s,Fam.mins_sub hr s hs,Fam.sub_refl s⟩
   have s2:Fam.heldP (Fam.rsts m (Fam.hits m fs)) t=true:=Fam.heldP_iff.mpr ⟨t,ht,Fam.sub_refl t⟩
   rw [Fam.held_rests hr hb (Fam.rsts_lt t ht)] at s2
   rw [hf s (hb s (Fam.mins_sub hr s hs)),decide_eq_true_eq] at s1
   rw [hf t (Fam.rsts_lt t ht)] at s2
   have:¬b≤Fam.wt N t:=by simpa using s2
   omega
abbrev qcS:Stmt:=top 69
def qdE:qam ["many", "family", "told"] ["many", "family"] (qag qcS):=fsc
/-- what by_weights tells -/
inductive Vt
 | w (N:List Nat) (b:Nat)
 | t (ys ns:List Nat)
def VtR (m:Nat) (fs:List Nat):Vt→Prop
 | .w N b=>qiq m (Fam.sayP fs) m 0∧WgF m fs N b
 | .t ys ns=>∃x y s u:Nat,x<y∧y<m∧qiq m (Fam.sayP fs) x y∧Fam.part m (Fam.sayP fs) x y=some s∧Fam.part m (Fam.sayP fs) y x=some u∧ys.Perm [s|||2^x,u|||2^y]∧ns.Perm [s|||2^y,u|||2^x]∧ys.Pairwise (·≤·)∧ns.Pairwise (·≤·)
def VtH (H:Hp) (t:Addr):Vt→Prop
 | .w N b=>∃pw,H t=some (.tup [.str "weights",.ref pw,.int (b:Nat)])∧H pw=some (.lst (nV N))
 | .t ys ns=>∃p1 p2,H t=some (.tup [.str "trade",.ref p1,.ref p2])∧H p1=some (.lst (nV ys))∧H p2=some (.lst (nV ns))
def VtB (m:Nat):Vt→Prop
 | .w N b=>N.length=m∧(∀n∈N,n≤256)∧b≤256
 | .t ys ns=>ys.length=2∧ns.length=2∧(∀b∈ys,b<2^m)∧∀b∈ns,b<2^m
def qji {m:Nat} {f:Nat→Bool} {x y x' y':Nat} {s u s' u':Nat} (a1:x<y) (a2:y<m) (a3:x'<y') (a4:y'<m) (n1:qiq m f x y) (n2:qiq m f x' y') (p1:Fam.part m f x y=some s) (p2:Fam.part m f y x=some u) (p3:Fam.part m f x' y'=some s') (p4:Fam.part m f y' x'=some u'):x=x'∧y=y':=by
 have b1:¬(x'<x∨x'=x∧y'<y):=fun z=>by
   rcases n1 x' y' a3 a4 z with e | e
   · rw [e] at p3;cases p3
   · rw [e] at p4;cases p4
 have b2:¬(x<x'∨x=x'∧y<y'):=fun z=>by
   rcases n2 x y a1 a2 z with e | e
   · rw [e] at p1;cases p1
   · rw [e] at p2;cases p2
 omega
def qgt {m:Nat} {f:Nat→Bool} {x y s u:Nat} (a1:x<y) (a2:y<m) (n:qiq m f m 0) (p1:Fam.part m f x y=some s) (p2:Fam.part m f y x=some u):False:=by
 rcases n x y a1 a2 (.inl (by omega)) with e | e
 · rw [e] at p1;cases p1
 · rw [e] at p2;cases p2
def qq2 {m:Nat} {fs:List Nat}:∀{v v':Vt},VtR m fs v→VtR m fs v'→v=v'
 | .w N b,.w N' b',⟨_,h⟩,⟨_,h'⟩=>by
   obtain ⟨rfl,rfl⟩:=qqT h h'
   rfl
 | .w N b,.t ys ns,⟨n,_⟩,⟨x,y,s,u,a1,a2,_,p1,p2,_⟩=>(qgt a1 a2 n p1 p2).elim
 | .t ys ns,.w N b,⟨x,y,s,u,a1,a2,_,p1,p2,_⟩,⟨n,_⟩=>(qgt a1 a2 n p1 p2).elim
 | .t ys ns,.t ys' ns',⟨x,y,s,u,a1,a2,n1,p1,p2,q1,q2,r1,r2⟩,⟨x',y',s',u',a3,a4,n2,p3,p4,q3,q4,r3,r4⟩=>by
   obtain ⟨rfl,rfl⟩:=qji a1 a2 a3 a4 n1 n2 p1 p2 p3 p4
   rw [p1] at p3
   rw [p2] at p4
   cases p3
   cases p4
   have e1:ys=ys':=(q1.trans q3.symm).eq_of_pairwise (fun a b _ _ h h'=>yad h h') r1 r3
   have e2:ns=ns':=(q2.trans q4.symm).eq_of_pairwise (fun a b _ _ h h'=>yad h h') r2 r4
   rw [e1,e2]
def qm0 {m:Nat} {fs:List Nat}:∀{v:Vt},VtR m fs v→VtB m v
 | .w N b,⟨_,h⟩=>by
   obtain ⟨h1,h2,h3⟩:=qqL h
   exact ⟨h1,fun n hn=>ydc (h2 n hn) (by decide),ydc h3 (by decide)⟩
 | .t ys ns,⟨x,y,s,u,a1,a2,_,p1,p2,q1,q2,_,_⟩=>by
   have px:2^x<2^m:=ybr (by decide) (by omega)
   have py:2^y<2^m:=ybr (by decide) a2
   have hs:=(Fam.part_some p1).1
   have hu:=(Fam.part_some p2).1
   refine ⟨q1.length_eq,q2.length_eq,fun b hb=>?_,fun b hb=>?_⟩
   · have:=q1.mem_iff.mp hb
     simp only [ybg,ydz,or_false] at this
     rcases this with rfl | rfl
     · exact ybq hs px
     · exact ybq hu py
   · have:=q2.mem_iff.mp hb
     simp only [ybg,ydz,or_false] at this
     rcases this with rfl | rfl
     · exact ybq hs py
     · exact ybq hu px
def VtH.mono {H H':Hp} {t:Addr} (s:qar H H'):∀{v:Vt},VtH H t v→VtH H' t v
 | .w N b,⟨pw,h1,h2⟩=>⟨pw,s _ _ h1,s _ _ h2⟩
 | .t ys ns,⟨p1,p2,h1,h2,h3⟩=>⟨p1,p2,s _ _ h1,s _ _ h2,s _ _ h3⟩
def quj (K:W.Frag):Sp:=sp2 fun x y H Q=>∃(m:Nat) (p:Addr) (fs:List Nat),x = .int (m:Nat)∧m≤5∧y = .ref p∧H p=some (.lst (nV fs))∧fs.length≤63∧fs.Pairwise (· < ·)∧(∀b∈fs,b<2^m)∧∀t v H',qar H H'→VtR m fs v→VtH H' t v→Q (.ref t) H'
def qg0 {f:Addr} {fd:FuncData} (F:Fun K "by_weights" "by_weights" qcS f fd) (T:Txt mg) {f_65:Addr} {fd_65:FuncData} (C_65:Cal P w K mg base "ranks" 5 ["many", "family"] (qhk K) f_65 fd_65) {f_52:Addr} {fd_52:FuncData} (C_52:Cal P w K mg base "weighed" 8 ["many", "family", "lists"] (qrP K) f_52 fd_52) {f_59:Addr} {fd_59:FuncData} (C_59:Cal P w K mg base "traded" 1 ["x", "y", "s", "t"] qjO f_59 fd_59):qaQ P w K mg base CX0 9 f fd ["many", "family"] (quj K):=by
 have sc:=qdE
 refine F.ok qdE (fun vs H Q E h=>by obtain ⟨_,_,rfl,_⟩:=h;rfl) (fun cdv A outer s H vs Q E hr h=>?_)
 obtain ⟨x0,x1,rfl,h⟩:=h
 refine ⟨_,(qac (qaB (qal qkg (pv 0) (qcX T.c_MOST_VOTERS (by rfl)) (qas _)) (qad qa2) qak)
   (qac (qat (i:=2) sc.nd rfl (Or.inl rfl) (pec C_65 hr (qaa (pv 0) (qaa (pv 1) qab))))
   (qac (qaB (qal (qax (K:=K) rfl hr.units0) (qaA (qaS (K:=K) rfl) (pv 2) qae (fun _ _=>rfl)) qaj (qas _)) (qad (qai (pec C_59 hr (qaa (qaA (qaS (K:=K) rfl) (pv 2) qae (fun _ _=>rfl)) (qaa (qaA (qaS (K:=K) rfl) (pv 2) qae (fun _ _=>rfl)) (qaa (qaA (qaS (K:=K) rfl) (pv 2) qae (fun _ _=>rfl)) (qaa (qaA (qaS (K:=K) rfl) (pv 2) qae (fun _ _=>rfl)) qab))))))) qak)
   (qad (qai (pec C_52 hr (qaa (pv 0) (qaa (pv 1) (qaa (qaA (qaS (K:=K) rfl) (pv 2) qae (fun _ _=>rfl)) qab))))))))),?_⟩
 refine rdg (σ':=[some x0,some x1,none]) rfl ?_
 obtain ⟨m,p,fs,rfl,hm,rfl,f1,lf,hr,hb,q⟩:=h
 walk_at "rd"
 rw [if_neg (by omega)]
 refine ⟨_,_,rfl,m,p,fs,rfl,by omega,rfl,f1,fun t H1 s1 R1=>?_⟩
 (try walk_at "rd")
 obtain ⟨ht,⟨x,y,s,u,hxy,hy,hno,e1,e2,at1⟩ | ⟨hno,p1,ps,at1,L1⟩⟩:=R1
 · refine qaL (SqT.of at1) rfl (eqS true (by decide) ⟨_,rfl,qez (qaL (SqT.of at1) rfl (qaL (SqT.of at1) rfl (qaL (SqT.of at1) rfl (qaL (SqT.of at1) rfl ?_))))⟩)
   refine ⟨_,_,_,_,rfl,x,y,s,u,rfl,rfl,rfl,rfl,by omega,by omega,fun tt p1 p2 ys ns H2 s2 h0 h1 h2 n12 b0 b1 b2 q1 q2 r1 r2=>?_⟩
   exact q tt (.t ys ns) H2 (s1.trans s2) ⟨x,y,s,u,hxy,hy,hno,e1,e2,q1,q2,r1,r2⟩ ⟨p1,p2,b0,b1,b2⟩
 · refine qaL (SqT.of at1) rfl (eqS false (by decide) ⟨_,rfl,qc4 (qaL (SqT.of at1) rfl ?_)⟩)
   refine ⟨_,_,_,rfl,m,p,p1,fs,ps,H,rfl,hm,rfl,s1 _ _ f1,lf,hr,hb,hno,rfl,L1,fun tt pw N b H2 s2 h0 h1 b0 b1 lN hf hW=>?_⟩
   exact q tt (.w N b) H2 (s1.trans s2) ⟨hno,hW⟩ ⟨pw,b0,b1⟩
abbrev qbZ:Stmt:=top 40
def qcI:qam ["words", "told", "yes", "no"] ["words", "told"] (qag qbZ):=fsc
def qcW (a b c:Str):a++b++c=a++(b++c):=congrArg Str.mk yeo
def vtT (ws:List Str):Vt→Str
 | .w N b=>Str.ofString "weights " ++ qsi (N++[b])
 | .t ys ns=>_root_.PySem.Txt.join " " ((("trade" : Str)::ys.map (Tx.sT ws)++[("/" : Str)])++ns.map (Tx.sT ws))
def qnr {ns:List Nat} (hl:ns.length≤9) (hn:∀n∈ns,n≤256):(qsi ns).length≤100:=by
 unfold qsi
 rw [←Tx.len_sg,Tx.lit_space,Tx.txt_join]
 refine ydc (Tx.jn_len (M:=3) fun x hx=>?_) (show _*4≤_ by rw [ycd,ycd];omega)
 obtain ⟨w,hw',rfl⟩:=ybt.mp hx
 obtain ⟨n,hn',rfl⟩:=ybt.mp hw'
 rw [Tx.len_sg]
 exact qgZ n (hn n hn')
def qd1 {d z:Str} (hz:z=d ++ " ") {l:List Str} (hl:l≠[]):_root_.PySem.Txt.join " " (d::l)=z++_root_.PySem.Txt.join " " l:=by
 rw [hz,Tx.lit_space,show d::l=[d]++l from rfl,←Tx.join_app (by simp) hl,Tx.join_one]
def qgQ {N:List Nat} {b:Nat} (hn:∀n∈N,n≤256) (hb:b≤256):∀n∈N++[b],n≤256:=fun n h=>by
 rcases yaw.mp h with h | h
 · exact hn n h
 · rw [yei.mp h]
   exact hb
def qrH (K:W.Frag):Sp:=sp2 fun x y H Q=>∃(p t:Addr) (ws:List Str) (v:Vt),x = .ref p∧H p=some (.lst (sV ws))∧Tx.Wds ws∧y = .ref t∧VtH H t v∧VtB ws.length v∧∀H',qar H H'→Q (.str (vtT ws v)) H'
def qfb {f:Addr} {fd:FuncData} (F:Fun K "show_weights" "show_weights" qbZ f fd) (T:Txt mg) {f_42:Addr} {fd_42:FuncData} (C_42:Cal P w K mg base "show_set" 2 ["words", "one"] (qcJ K) f_42 fd_42) {f_12:Addr} {fd_12:FuncData} (C_12:Cal P w K mg base "show_numbers" 1 ["numbers"] (qfF K) f_12 fd_12):qaQ P w K mg base CX0 3 f fd ["words", "told"] (qrH K):=by
 have sc:=qcI
 refine F.ok qcI (fun vs H Q E h=>by obtain ⟨_,_,rfl,_⟩:=h;rfl) (fun cdv A outer s H vs Q E hr h=>?_)
 obtain ⟨x0,x1,rfl,h⟩:=h
 refine ⟨_,(qac (qaB (qal (qax (K:=K) rfl hr.units0) (qaA (qaS (K:=K) rfl) (pv 1) qae (fun _ _=>rfl)) qaj (qas _)) (qad (qai (qap qaK qaj (pec C_12 hr (qaa (qap (qbe (K:=K) rfl) (qaA (qaS (K:=K) rfl) (pv 1) qae (fun _ _=>rfl)) (qaH (qaa (qaA (qaS (K:=K) rfl) (pv 1) qae (fun _ _=>rfl)) qab))) qab))))) qak)
   (qac (qcN (i:=2) sc.nd rfl rfl (by rfl) (N:=["one", "words"]) (nt:=1) (caps:=[0]) qaC rfl (qaJ (qaA (qaS (K:=K) rfl) (pv 1) qae (fun _ _=>rfl))) (fun _ _ _ _ _=>(qan (i:=0) (show List.Nodup (α:=Str) ["one", "words"] from by decide +kernel) rfl (Or.inl rfl))) qaE (fun _ _ _ _ _=>qaF) (fun _ _ _ _ _=>(pec C_42 hr (qaa (pv 1) (qaa (pv 0) qab)))))
   (qac (qcN (i:=3) sc.nd rfl rfl (by rfl) (N:=["one", "words"]) (nt:=1) (caps:=[0]) qaC rfl (qaJ (qaA (qaS (K:=K) rfl) (pv 1) qae (fun _ _=>rfl))) (fun _ _ _ _ _=>(qan (i:=0) (show List.Nodup (α:=Str) ["one", "words"] from by decide +kernel) rfl (Or.inl rfl))) qaE (fun _ _ _ _ _=>qaF) (fun _ _ _ _ _=>(pec C_42 hr (qaa (pv 1) (qaa (pv 0) qab)))))
   (qad (qai (qbf yhg yhh yhi (qaM (K:=K) rfl) qaj (qaa (qap (qbe (K:=K) rfl) (qap (qbe (K:=K) rfl) (qap (qbe (K:=K) rfl) (qaH (qaa qaj qab)) (pv 2)) (qaH (qaa qaj qab))) (pv 3)) qab))))))),?_⟩
 refine rdg (σ':=[some x0,some x1,none,none]) rfl ?_
 obtain ⟨p,t,ws,v,rfl,f1,hw,rfl,hV,hB,q⟩:=h
 walk_at "rd"
 have zz:100000≤sizeLine:=by decide
 have lw8:(Str.ofString "weights ").length=8:=by decide +kernel
 have h8:=hw.few
 cases v with
 | w N b =>
   obtain ⟨pw,f2,f3⟩:=hV
   obtain ⟨hl,hn,hb⟩:=hB
   have nl:=qnr (ns:=N++[b]) (by simp;omega) (qgQ hn hb)
   refine qaL (SqT.of f2) (qaz (j:=0) rfl) ⟨_,.inl ⟨rfl,rfl⟩,⟨true,congrArg V.bl (decide_eq_true rfl),qez ?_⟩⟩
   refine qaL (SqT.of f2) (qaz (j:=1) rfl) (qaL (SqT.of f2) (qaz (j:=2) rfl) ⟨qaq (by simp),fun p1 hp1=>?_⟩)
   generalize g1:upd H p1 _=G1
   have a1:G1 p1=some (.lst (nV [b])):=qao g1
   have s1:=qah g1 hp1
   refine ⟨pw,p1,_,_,rfl,rfl,SqL.of (s1 _ _ f3),SqL.of a1,qaq (by rw [qa1,qa1,yfn];omega),fun p2 hp2=>?_⟩
   rw [qfr]
   generalize g2:upd G1 p2 _=G2
   have a2:=qao g2
   have s2:=s1.trans (qah g2 hp2)
   exact ⟨_,rfl,p2,N++[b],rfl,a2,by simp;omega,qgQ hn hb,fun H3 s3=>⟨_,rfl,by omega,q _ (s2.trans s3)⟩⟩
 | t ys ns =>
   obtain ⟨p1,p2,f2,f3,f4⟩:=hV
   obtain ⟨ly,ln,hy,hn⟩:=hB
   have n1:¬("trade" : Str)=Str.ofString "weights" := by decide +kernel
   have e1:decide (V.str ("trade" : Str)=V.str (Str.ofString "weights"))=false:=decide_eq_false fun e=>n1 (V.str.inj e)
   refine qaL (SqT.of f2) (qaz (j:=0) rfl) ⟨_,.inl ⟨rfl,rfl⟩,⟨false,congrArg V.bl e1,qc4 ?_⟩⟩
   refine qaL (SqT.of f2) (qaz (j:=1) rfl) ⟨p1,rfl,⟨_,SqL.of f3⟩,qbQ (fs:=ys) (fun _=>true) (fun b => .str (Tx.sT ws b)) (SqL.of f3) (by omega) (fun b hb' H2 s2 R R' r1 r2=>?_) fun H2 p3 s2 hp3=>?_⟩
   · (try walk_at "rd")
     exact ⟨_,_,rfl,p,ws,b,rfl,s2 _ _ f1,hw,rfl,hy b hb',fun H3 s3=>r1 rfl _ s3⟩
   rw [ygf.mpr fun _ _=>rfl,qbu]
   generalize g3:upd H2 p3 _=G3
   have a3:=qao g3
   have s3:=s2.trans (qah g3 hp3)
   (try walk_at "rd")
   refine qaL (SqT.of (s3 _ _ f2)) (qaz (j:=2) rfl) ⟨p2,rfl,⟨_,SqL.of (s3 _ _ f4)⟩,qbQ (fs:=ns) (fun _=>true) (fun b => .str (Tx.sT ws b)) (SqL.of (s3 _ _ f4)) (by omega) (fun b hb' H4 s4 R R' r1 r2=>?_) fun H5 p5 s5 hp5=>?_⟩
   · (try walk_at "rd")
     exact ⟨_,_,rfl,p,ws,b,rfl,s4 _ _ (s3 _ _ f1),hw,rfl,hn b hb',fun H3 s3=>r1 rfl _ s3⟩
   rw [ygf.mpr fun _ _=>rfl,qbu]
   generalize g5:upd H5 p5 _=G5
   have a5:=qao g5
   have t5:=s5.trans (qah g5 hp5)
   have a3:=t5 _ _ a3
   have s5:=s3.trans t5
   (try walk_at "rd")
   refine ⟨rfl,qaq (by simp),fun p6 hp6=>?_⟩
   generalize g6:upd G5 p6 _=G6
   have a6:=qao g6
   have t6:=qah g6 hp6
   refine ⟨p6,p3,_,_,rfl,rfl,SqL.of a6,SqL.of (t6 _ _ a3),qaq (by rw [qaR,ycd];simp;omega),fun p7 hp7=>?_⟩
   generalize g7:upd G6 p7 _=G7
   have a7:G7 p7=some (.lst (sV (("trade" : Str)::ys.map (Tx.sT ws)))):=qao g7
   have t7:=t6.trans (qah g7 hp7)
   refine ⟨qaq (by simp),fun p8 hp8=>?_⟩
   generalize g8:upd G7 p8 _=G8
   have a8:G8 p8=some (.lst (sV [("/" : Str)])):=qao g8
   have t8:=qah g8 hp8
   refine ⟨p7,p8,_,_,rfl,rfl,SqL.of (t8 _ _ a7),SqL.of a8,qaq (by rw [qaR,qaR,ycb,ycd];simp;omega),fun p9 hp9=>?_⟩
   generalize g9:upd G8 p9 _=G9
   have a9:G9 p9=some (.lst (sV (("trade" : Str)::ys.map (Tx.sT ws)++[("/" : Str)]))):=by
     unfold sV
     rw [ycu]
     exact qao g9
   have t9:=(t7.trans t8).trans (qah g9 hp9)
   refine ⟨p9,p5,_,_,rfl,rfl,SqL.of a9,SqL.of (t9 _ _ a5),qaq (by rw [qaR,qaR];simp;omega),fun p10 hp10=>?_⟩
   generalize g10:upd G9 p10 _=G10
   have a10:G10 p10=some (.lst (sV ((("trade" : Str)::ys.map (Tx.sT ws)++[("/" : Str)])++ns.map (Tx.sT ws)))):=by
     rw [show ∀A B:List Str,sV (A++B)=sV A++sV B from fun A B=>ycu]
     exact qao g10
   refine ⟨_,p10,_,rfl,rfl,SqL.of a10,qaD (M:=72) (N:=20) (fun y hy'=>?_) (by simp;omega) (by rw [Tx.lit_space];decide) (by decide),q _ ((s5.trans t9).trans (qah g10 hp10))⟩
   rcases yaw.mp hy' with h | h
   · rcases yaw.mp h with h | h
     · rcases ybg.mp h with rfl | h
       · decide +kernel
       · obtain ⟨b,hb,rfl⟩:=ybt.mp h
         exact Tx.sT_len hw (hy b hb)
     · rw [yei.mp h]
       decide +kernel
   · obtain ⟨b,hb,rfl⟩:=ybt.mp h
     exact Tx.sT_len hw (hn b hb)
abbrev qbq:Stmt:=top 83
def qbX:qam ["many", "family", "x", "y"] ["many", "family", "x", "y"] (qag qbq):=fsc
def qsQ (K:W.Frag):Sp:=sp4 fun u v x y H Q=>∃(m:Nat) (p:Addr) (fs:List Nat) (i j:Nat),u = .int m∧m≤8∧v = .ref p∧H p=some (.lst (nV fs))∧x = .int i∧i<m∧y = .int j∧j<m∧i≠j∧∀t H',H t=none→qar H H'→H' t=some (.tup (qoy m (Fam.sayP fs) i j))→Q (.ref t) H'
def qdI {f:Addr} {fd:FuncData} (F:Fun K "compared_unlike" "compared_unlike" qbq f fd) (T:Txt mg) {f_45:Addr} {fd_45:FuncData} (C_45:Cal P w K mg base "compared" 4 ["many", "family", "x", "y"] (qek K) f_45 fd_45):qaQ P w K mg base CX0 5 f fd ["many", "family", "x", "y"] (qsQ K):=by
 have sc:=qbX
 refine F.ok qbX (fun vs H Q E h=>by obtain ⟨_,_,_,_,rfl,_⟩:=h;rfl) (fun cdv A outer s H vs Q E hr h=>?_)
 obtain ⟨x0,x1,x2,x3,rfl,h⟩:=h
 refine ⟨_,(qac (qaB (qal (qax (K:=K) rfl hr.units0) (pv 2) (pv 3) (qas _)) (qad qa2) qak)
   (qad (qai (pec C_45 hr (qaa (pv 0) (qaa (pv 1) (qaa (pv 2) (qaa (pv 3) qab)))))))),?_⟩
 refine rdg (σ':=[some x0,some x1,some x2,some x3]) rfl ?_
 obtain ⟨m,p,fs,i,j,rfl,hm,rfl,f1,rfl,hi,rfl,hj,hij,q⟩:=h
 walk_at "rd"
 rw [if_neg (by omega)]
 exact ⟨_,_,_,_,rfl,m,p,fs,i,j,rfl,hm,rfl,f1,rfl,hi,rfl,hj,q⟩
abbrev qeo:Stmt:=top 80
def qft:qam ["word"] ["word"] (qag qeo):=fsc
def qij:Sp:=sp1 fun x H Q=>∃w:Str,x = .str w∧Tx.Wd w∧∀H',qar H H'→Q (.str w) H'
def qje {f:Addr} {fd:FuncData} (F:Fun K "new_name" "new_name" qeo f fd) (T:Txt mg) {f_50:Addr} {fd_50:FuncData} (C_50:Cal P w K mg base "is_word" 1 ["text"] qgq f_50 fd_50):qaQ P w K mg base CX0 2 f fd ["word"] qij:=by
 have sc:=qft
 refine F.ok qft (fun vs H Q E h=>by obtain ⟨_,rfl,_⟩:=h;rfl) (fun cdv A outer s H vs Q E hr h=>?_)
 obtain ⟨x0,rfl,h⟩:=h
 refine ⟨_,(qac (qaB (qbD (qbg (pec C_50 hr (qaa (pv 0) qab)))) (qad qa2) qak)
   (qad (qai (pv 0)))),?_⟩
 refine rdg (σ':=[some x0]) rfl ?_
 obtain ⟨w,rfl,hw,q⟩:=h
 walk_at "rd"
 exact ⟨_,rfl,w,rfl,hw,fun H' s'=>⟨true,rfl,by rw [if_neg (by decide)];exact q _ s'⟩⟩
abbrev qd9:Stmt:=top 79
def qfx:qam ["row", "deed", "parts"] ["row"] (qag qd9):=fsc
def qh0 (K:W.Frag):Sp:=sp1 fun x H Q=>∃(z d:Str) (r ks:List Str),x = .str z∧Prt z d r ks∧∀p H',H p=none→qar H H'→H' p=some (.lst (sV (d::r)))→Q (.ref p) H'
def qiD {f:Addr} {fd:FuncData} (F:Fun K "parts_of" "parts_of" qd9 f fd) (T:Txt mg) {cD aW:Addr} (Z:Xt P w K mg cD aW)  : qaQ P w K mg base CX0 1 f fd ["row"] (qh0 K):=by
 have sc:=qfx
 refine F.ok qfx (fun vs H Q E h=>by obtain ⟨_,rfl,_⟩:=h;rfl) (fun cdv A outer s H vs Q E hr h=>?_)
 obtain ⟨x0,rfl,h⟩:=h
 refine ⟨_,(qac (qaB (qbD (qbg (qav qbp (by rfl) T.n_isinstance PyProof.Rows.boot_isinstance (qaa (pv 0) (qaa (qed (v := .ty "str") (by rfl) T.n_str PyProof.Rows.boot_str rfl) qab))))) (qad qa2) qak)
   (qac (qat (i:=1) sc.nd rfl (Or.inl rfl) (qaA (qaS (K:=K) rfl) (qbf yhg yhl yhm qgy (pv 0) (qaa qaj qab)) qae (fun _ _=>rfl)))
   (qac (qaB (qls (qqY (P:=P) (w:=w) (K:=K) rfl rfl rfl (pv 1) (qd8 (v := .ref aW) (by rfl) Z.gW rfl)) (by with_unfolding_all rfl)) (qad qa2) qak)
   (qac (qat (i:=2) sc.nd rfl (Or.inl rfl) (qj6 (qal (qax (K:=K) rfl hr.units0) (pv 1) qaj (qas _)) (qbf yhg yhl yhm qlU (pv 0) (qaa qaj (qaa qae qab))) (qbf yhg yhl yhm qgy (pv 0) (qaa qaj qab))))
   (qac (qaB (qal (qjF (K:=K) rfl hr.units0) (qav (qaO (K:=K) rfl) (by rfl) T.n_len PySem.boot_len (qaa (pv 2) qab)) (qap qa4 (qav (qaO (K:=K) rfl) (by rfl) T.n_len PySem.boot_len (qaa (qi4 (P:=P) (w:=w) (K:=K) rfl rfl rfl (qd8 (v := .ref aW) (by rfl) Z.gW rfl) (pv 1) (fun _ _=>rfl)) qab)) qae) (qas _)) (qad qa2) qak)
   (qad (qai (pv 2)))))))),?_⟩
 refine rdg (σ':=[some x0,none,none]) rfl ?_
 obtain ⟨z,d,r,ks,rfl,hP,q⟩:=h
 obtain ⟨kvs,kd1,kd2⟩:=Z.wn.kv
 obtain ⟨t,vt,ht⟩:=kd2 d ks hP.kd
 have hz:=hP.sz
 have hln:=hP.ln
 walk_at "rd"
 refine ⟨_, "str",⟨rfl,rfl⟩, "str",rfl,by decide,?_⟩
 rw [if_neg (by decide)]
 refine ⟨rfl,z,_,rfl,rfl,by rw [Tx.lit_space];rfl,by omega,fun p1 hp1=>?_⟩
 generalize g1:upd H p1 _=G1
 have a1:=qao g1
 have s1:=qah g1 hp1
 refine qaP (SqL.of a1) (qb8 hP.hd) ⟨kvs,Sum.inr d,rfl,kd1,false,by rw [vt];rfl,?_⟩
 rw [if_neg (by decide)]
 (try walk_at "rd")
 have hps:=hP.ps
 by_cases hl:d=("let" : Str)
 · rw [if_pos hl] at hps
   rw [if_pos hl]
   refine ⟨rfl,z,_,2,rfl,rfl,by rw [Tx.lit_space];rfl,by omega,by decide,fun p2 hp2=>?_⟩
   rw [show _root_.PySem.Txt.splitMax z " " ((2:Nat):Int)=d::r from hps]
   refine ⟨p2,rfl,_,.inl (SqL.of qaf),kvs,Sum.inr d,rfl,kd1,_,vt,t,rfl,_,.inr (ht _),?_⟩
   rw [qaR,qaR,ycb]
   exact ⟨false,by rw [decide_eq_true (by omega)];rfl,qc4 (q p2 _ (qau s1 hp2) (s1.trans (qar.new hp2)) qaf)⟩
 · rw [if_neg hl] at hps
   rw [if_neg hl]
   refine ⟨rfl,z,_,rfl,rfl,by rw [Tx.lit_space];rfl,by omega,fun p2 hp2=>?_⟩
   rw [hps]
   refine ⟨p2,rfl,_,.inl (SqL.of qaf),kvs,Sum.inr d,rfl,kd1,_,vt,t,rfl,_,.inr (ht _),?_⟩
   rw [qaR,qaR,ycb]
   exact ⟨false,by rw [decide_eq_true (by omega)];rfl,qc4 (q p2 _ (qau s1 hp2) (s1.trans (qar.new hp2)) qaf)⟩
abbrev qbU:Stmt:=qfg (top 78) 0
def qcq:qam ["self", "text"] ["self", "text"] (qag qbU):=fsc
def qoO (cD:Addr):Sp:=sp2 fun x y H Q=>∃(d dx:Addr) (ws:List Str),x = .ref d∧H d=some (.ins cD dx [])∧y = .str (_root_.PySem.Txt.join " " ws)∧Tx.Wds ws∧∀pk H',H pk=none→qgV cD H' d pk ws []→SmB d H H'→Q .non H'
def qeM {f:Addr} {fd:FuncData} (F:Fun K "__init__" "Desk.__init__" qbU f fd) (T:Txt mg) {cD aW:Addr} (Z:Xt P w K mg cD aW) {f_22:Addr} {fd_22:FuncData} (C_22:Cal P w K mg base "read_names" 2 ["text"] (qe7 K) f_22 fd_22):qaQ P w K mg base CX0 3 f fd ["self", "text"] (qoO cD):=by
 have sc:=qcq
 refine F.ok qcq (fun vs H Q E h=>by obtain ⟨_,_,rfl,_⟩:=h;rfl) (fun cdv A outer s H vs Q E hr h=>?_)
 obtain ⟨x0,x1,rfl,h⟩:=h
 refine ⟨_,(qac (qph (pv 0) (pec C_22 hr (qaa (pv 1) qab)) rfl)
   (qad (qph (pv 0) qob rfl))),?_⟩
 refine rdg (σ':=[some x0,some x1]) rfl ?_
 obtain ⟨d,dx,ws,rfl,hd,rfl,hw,q⟩:=h
 walk_at "rd"
 refine ⟨_,rfl,ws,rfl,hw,fun pw H1 hpw s1 a1=>?_⟩
 (try walk_at "rd")
 have npd:pw≠d:=fun e=>by rw [e,hd] at hpw;cases hpw
 refine ⟨cD,dx,[],s1 _ _ hd,Z.cl,Z.nw,by decide,fun pk hpk=>?_⟩
 have nkd:pk≠d:=fun e=>by rw [e,qaf] at hpk;cases hpk
 rw [qay nkd] at hpk
 have nkw:pk≠pw:=fun e=>by rw [e,a1] at hpk;cases hpk
 refine ⟨cD,dx,_,by rw [qay (Ne.symm nkd),qaf],Z.cl,Z.nk,by show 1<1000;decide,?_⟩
 rw [qoG]
 refine q pk _ (qau s1 hpk) ⟨⟨dx,pw,qaf,by rw [qay npd,qay (Ne.symm nkw),qay npd];exact a1⟩,⟨[],by rw [qay nkd,qaf],rfl,fun n=>rfl⟩,hw,fun n fs h=>(by cases h),by decide⟩ fun b o e hb=>?_
 rw [qay hb,qay (qaZ (s1 _ _ e) hpk),qay hb]
 exact s1 _ _ e
abbrev qbB:Stmt:=qfg (top 78) 3
def qcb:qam ["self", "word"] ["self", "word"] (qag qbB):=fsc
def qlJ (cD:Addr):Sp:=sp2 fun x y H Q=>∃(d pk:Addr) (ws:List Str) (m:List (Str×List Nat)) (n:Str) (fs:List Nat),x = .ref d∧qgV cD H d pk ws m∧y = .str n∧m.lookup n=some fs∧∀p,H p=some (.lst (nV fs))→Q (.ref p) H
def qee {f:Addr} {fd:FuncData} (F:Fun K "family_by" "Desk.family_by" qbB f fd) (T:Txt mg) {cD aW:Addr} (Z:Xt P w K mg cD aW)  : qaQ P w K mg base CX0 1 f fd ["self", "word"] (qlJ cD):=by
 have sc:=qcb
 refine F.ok qcb (fun vs H Q E h=>by obtain ⟨_,_,rfl,_⟩:=h;rfl) (fun cdv A outer s H vs Q E hr h=>?_)
 obtain ⟨x0,x1,rfl,h⟩:=h
 refine ⟨_,(qac (qaB (qls (qhR (qoA hr) (pv 1) (qc7 (pv 0) rfl)) (by with_unfolding_all rfl)) (qad qa2) qak)
   (qad (qai (qqf (qoA hr) (qc7 (pv 0) rfl) (pv 1) (fun _ _=>rfl))))),?_⟩
 refine rdg (σ':=[some x0,some x1]) rfl ?_
 obtain ⟨d,pk,ws,m,n,fs,rfl,D,rfl,hn,q⟩:=h
 obtain ⟨dx,pw,o1,o2⟩:=D.ob
 obtain ⟨kvs,k1,k2⟩:=D.dc
 obtain ⟨p,v1,v2⟩:=k2.get hn
 walk_at "rd"
 refine ⟨cD,dx,_,o1,Z.cl,Z.nk,_,qil _ _,pk,rfl,_,qm6.k (k:=Sum.inr n) k1,false,by rw [v1];rfl,qc4 ?_⟩
 exact ⟨cD,dx,_,o1,Z.cl,Z.nk,_,qil _ _,pk,rfl,_,(by have:=qm6.k (k:=Sum.inr n) k1;rw [v1] at this;exact this),q p v2⟩
abbrev qa8:Stmt:=qfg (top 78) 4
def qbv:qam ["self", "name"] ["self", "name"] (qag qa8):=fsc
def qpc (cD:Addr):Sp:=sp2 fun x y H Q=>∃(d pk:Addr) (ws:List Str) (m:List (Str×List Nat)) (n:Str),x = .ref d∧qgV cD H d pk ws m∧y = .str n∧(m.lookup n≠none∨m.length<20)∧Q .non H
def qcL {f:Addr} {fd:FuncData} (F:Fun K "look_for_room" "Desk.look_for_room" qa8 f fd) (T:Txt mg) {cD aW:Addr} (Z:Xt P w K mg cD aW)  : qaQ P w K mg base CX0 1 f fd ["self", "name"] (qpc cD):=by
 have sc:=qbv
 refine F.ok qbv (fun vs H Q E h=>by obtain ⟨_,_,rfl,_⟩:=h;rfl) (fun cdv A outer s H vs Q E hr h=>?_)
 obtain ⟨x0,x1,rfl,h⟩:=h
 refine ⟨_,(qad (qaB (PW.pt (qey (qls (qhR (qoA hr) (pv 1) (qc7 (pv 0) rfl)) (by with_unfolding_all rfl)) (qdy (qal qtd (qav qkW (by rfl) T.n_len PySem.boot_len (qaa (qc7 (pv 0) rfl) qab)) (qcX T.c_MOST_KEPT (by rfl)) (qas _))))) (qad qa2) qak)),?_⟩
 refine rdg (σ':=[some x0,some x1]) rfl ?_
 obtain ⟨d,pk,ws,m,n,rfl,D,rfl,hn,q⟩:=h
 obtain ⟨dx,pw,o1,o2⟩:=D.ob
 obtain ⟨kvs,k1,k2⟩:=D.dc
 walk_at "rd"
 refine ⟨cD,dx,_,o1,Z.cl,Z.nk,_,qil _ _,pk,rfl,_,qm6.k (k:=Sum.inr n) k1,?_⟩
 cases e:m.lookup n with
 | some fs =>
   obtain ⟨p,v1,_⟩:=k2.get e
   exact ⟨false,by rw [v1];rfl,qc4 q⟩
 | none =>
   have v1:=k2.no e
   refine ⟨true,by rw [v1];rfl,qez ⟨cD,dx,_,o1,Z.cl,Z.nk,_,qil _ _,pk,rfl,_,k1,?_⟩⟩
   have:m.length<20:=by
     rcases hn with h | h
     · exact absurd e h
     · exact h
   rw [if_neg (by rw [k2.1];omega)]
   exact q
abbrev qbF:Stmt:=qfg (top 78) 2
def qct:qam ["self", "kind", "word"] ["self", "kind", "word"] (qag qbF):=fsc
def qmf (cD:Addr):Sp:=sp3 fun x y z H Q=>∃(d pk:Addr) (ws:List Str) (m:List (Str×List Nat)) (k w:Str) (th:Th),x = .ref d∧qgV cD H d pk ws m∧y = .str k∧z = .str w∧Thg ws m k w th∧∀v H',qar H H'→ThV H' th v→Q v H'
def qeR {f:Addr} {fd:FuncData} (F:Fun K "thing_of" "Desk.thing_of" qbF f fd) (T:Txt mg) {cD aW:Addr} (Z:Xt P w K mg cD aW) {f_17:Addr} {fd_17:FuncData} (C_17:Cal P w K mg base "read_family" 4 ["words", "text"] (qhI K) f_17 fd_17) {f_46:Addr} {fd_46:FuncData} (C_46:Cal P w K mg base "new_name" 2 ["word"] qij f_46 fd_46) {f_05:Addr} {fd_05:FuncData} (C_05:qgE P w K mg base cD "family_by" 1 ["self", "word"] (qlJ cD) f_05 fd_05) {f_33:Addr} {fd_33:FuncData} (C_33:Cal P w K mg base "read_name" 1 ["words", "word"] (qep K) f_33 fd_33) {f_43:Addr} {fd_43:FuncData} (C_43:Cal P w K mg base "read_set" 2 ["words", "text"] (qfV K) f_43 fd_43):qaQ P w K mg base CX0 5 f fd ["self", "kind", "word"] (qmf cD):=by
 have sc:=qct
 refine F.ok qct (fun vs H Q E h=>by obtain ⟨_,_,_,rfl,_⟩:=h;rfl) (fun cdv A outer s H vs Q E hr h=>?_)
 obtain ⟨x0,x1,x2,rfl,h⟩:=h
 refine ⟨_,(qac (qaB (qal (qax (K:=K) rfl hr.units0) (pv 1) qaj (qas _)) (qad (qai (pec C_46 hr (qaa (pv 2) qab)))) qak)
   (qac (qaB (qal (qax (K:=K) rfl hr.units0) (pv 1) qaj (qas _)) (qad (qai (qbV (pv 0) Z.cl C_05 hr (by decide) (qaa (pv 2) qab)))) qak)
   (qac (qaB (qal (qax (K:=K) rfl hr.units0) (pv 1) qaj (qas _)) (qad (qai (pec C_33 hr (qaa (qc7 (pv 0) rfl) (qaa (pv 2) qab))))) qak)
   (qac (qaB (qal (qax (K:=K) rfl hr.units0) (pv 1) qaj (qas _)) (qad (qai (pec C_43 hr (qaa (qc7 (pv 0) rfl) (qaa (pv 2) qab))))) qak)
   (qad (qai (pec C_17 hr (qaa (qc7 (pv 0) rfl) (qaa (pv 2) qab))))))))),?_⟩
 refine rdg (σ':=[some x0,some x1,some x2]) rfl ?_
 obtain ⟨d,pk,ws,m,k,w,th,rfl,D,rfl,rfl,hT,q⟩:=h
 obtain ⟨dx,pw,o1,o2⟩:=D.ob
 walk_at "rd"
 have hw:=D.wd
 have h8:=hw.few
 have n1:¬(Str.ofString "family" = Str.ofString "new"):=by decide +kernel
 have n2:¬(Str.ofString "name" = Str.ofString "new"):=by decide +kernel
 have n3:¬(Str.ofString "name" = Str.ofString "family"):=by decide +kernel
 have n4:¬(Str.ofString "set" = Str.ofString "new"):=by decide +kernel
 have n5:¬(Str.ofString "set" = Str.ofString "family"):=by decide +kernel
 have n6:¬(Str.ofString "set" = Str.ofString "name"):=by decide +kernel
 have n7:¬(Str.ofString "text" = Str.ofString "new"):=by decide +kernel
 have n8:¬(Str.ofString "text" = Str.ofString "family"):=by decide +kernel
 have n9:¬(Str.ofString "text" = Str.ofString "name"):=by decide +kernel
 have n10:¬(Str.ofString "text" = Str.ofString "set"):=by decide +kernel
 cases hT with
 | new h =>
   rw [if_pos rfl]
   exact ⟨_,rfl,w,rfl,h,fun H' s'=>q _ _ s' rfl⟩
 | @fam _ fs h =>
   rw [if_neg n1,if_pos rfl]
   exact ⟨dx,_,o1,qcH _ _ (by decide +kernel) (by decide +kernel),_,_,rfl,d,pk,ws,m,w,fs,rfl,D,rfl,h,fun p hp=>q _ _ (qar.refl _) ⟨p,rfl,hp⟩⟩
 | name h =>
   rw [if_neg n2,if_neg n3,if_pos rfl]
   exact ⟨cD,dx,_,o1,Z.cl,Z.nw,_,qhW _ _,_,_,rfl,pw,ws,w,rfl,o2,h8,rfl,h,q _ _ (qar.refl _) rfl⟩
 | @set a h =>
   rw [if_neg n4,if_neg n5,if_neg n6,if_pos rfl]
   exact ⟨cD,dx,_,o1,Z.cl,Z.nw,_,qhW _ _,_,_,rfl,pw,ws,a,rfl,o2,hw,rfl,h,fun H' s'=>q _ _ s' rfl⟩
 | @text fs h =>
   rw [if_neg n7,if_neg n8,if_neg n9,if_neg n10]
   exact ⟨cD,dx,_,o1,Z.cl,Z.nw,_,qhW _ _,_,_,rfl,pw,ws,fs,rfl,o2,hw,rfl,h.lt,h.rise,h.few,fun p' H' hp' s' a'=>q _ _ s' ⟨p',rfl,a'⟩⟩
abbrev qmO:Stmt:=top 81
def qlm:qam ["many", "deed", "things"] ["many", "deed", "things"] (qag qmO):=fsc
inductive MkR (n:Nat):Str→List Th→List Nat→Prop
 | let {fs:List Nat}:MkR n "let" [.fm fs] fs
def qpB (K:W.Frag):Sp:=sp3 fun x y z H Q=>∃(n:Nat) (deed:Str) (p:Addr) (vs:List V) (ths:List Th) (gs:List Nat),x = .int (n:Nat)∧n≤8∧y = .str deed∧z = .ref p∧H p=some (.lst vs)∧qhH H ths vs∧MkR n deed ths gs∧∀p' H',qar H H'→H' p'=some (.lst (nV gs))→Q (.ref p') H'
def qqh {f:Addr} {fd:FuncData} (F:Fun K "made" "made" qmO f fd) (T:Txt mg) {f_23:Addr} {fd_23:FuncData} (C_23:Cal P w K mg base "always_out" 1 ["family", "k"] qoS f_23 fd_23) {f_68:Addr} {fd_68:FuncData} (C_68:Cal P w K mg base "hits" 3 ["many", "family"] (qmB K) f_68 fd_68) {f_63:Addr} {fd_63:FuncData} (C_63:Cal P w K mg base "rests" 2 ["many", "family"] (qi6 K) f_63 fd_63) {f_56:Addr} {fd_56:FuncData} (C_56:Cal P w K mg base "either" 1 ["one", "other"] qoS f_56 fd_56) {f_69:Addr} {fd_69:FuncData} (C_69:Cal P w K mg base "both" 1 ["one", "other"] qoS f_69 fd_69) {f_34:Addr} {fd_34:FuncData} (C_34:Cal P w K mg base "always_in" 1 ["family", "k"] qoS f_34 fd_34):qaQ P w K mg base CX0 4 f fd ["many", "deed", "things"] (qpB K):=by
 have sc:=qlm
 refine F.ok qlm (fun vs H Q E h=>by obtain ⟨_,_,_,rfl,_⟩:=h;rfl) (fun cdv A outer s H vs Q E hr h=>?_)
 obtain ⟨x0,x1,x2,rfl,h⟩:=h
 refine ⟨_,(qac (qaB (qal (qax (K:=K) rfl hr.units0) (pv 1) qaj (qas _)) (qad (qai (qaA (qaS (K:=K) rfl) (pv 2) qae (fun _ _=>rfl)))) qak)
   (qac (qaB (qal (qax (K:=K) rfl hr.units0) (pv 1) qaj (qas _)) (qad (qai (pec C_68 hr (qaa (pv 0) (qaa (qaA (qaS (K:=K) rfl) (pv 2) qae (fun _ _=>rfl)) qab))))) qak)
   (qac (qaB (qal (qax (K:=K) rfl hr.units0) (pv 1) qaj (qas _)) (qad (qai (pec C_63 hr (qaa (pv 0) (qaa (qaA (qaS (K:=K) rfl) (pv 2) qae (fun _ _=>rfl)) qab))))) qak)
   (qac (qaB (qal (qax (K:=K) rfl hr.units0) (pv 1) qaj (qas _)) (qad (qai (pec C_56 hr (qaa (qaA (qaS (K:=K) rfl) (pv 2) qae (fun _ _=>rfl)) (qaa (qaA (qaS (K:=K) rfl) (pv 2) qae (fun _ _=>rfl)) qab))))) qak)
   (qac (qaB (qal (qax (K:=K) rfl hr.units0) (pv 1) qaj (qas _)) (qad (qai (pec C_69 hr (qaa (qaA (qaS (K:=K) rfl) (pv 2) qae (fun _ _=>rfl)) (qaa (qaA (qaS (K:=K) rfl) (pv 2) qae (fun _ _=>rfl)) qab))))) qak)
   (qac (qaB (qal (qax (K:=K) rfl hr.units0) (pv 1) qaj (qas _)) (qad (qai (pec C_34 hr (qaa (qaA (qaS (K:=K) rfl) (pv 2) qae (fun _ _=>rfl)) (qaa (qaA (qaS (K:=K) rfl) (pv 2) qae (fun _ _=>rfl)) qab))))) qak)
   (qad (qai (pec C_23 hr (qaa (qaA (qaS (K:=K) rfl) (pv 2) qae (fun _ _=>rfl)) (qaa (qaA (qaS (K:=K) rfl) (pv 2) qae (fun _ _=>rfl)) qab))))))))))),?_⟩
 refine rdg (σ':=[some x0,some x1,some x2]) rfl ?_
 obtain ⟨n,deed,p,vs,ths,gs,rfl,hn,rfl,rfl,f1,hv,hM,q⟩:=h
 walk_at "rd"
 have n_hits_let:¬(Str.ofString "hits" = Str.ofString "let"):=by decide +kernel
 have n_rests_let:¬(Str.ofString "rests" = Str.ofString "let"):=by decide +kernel
 have n_either_let:¬(Str.ofString "either" = Str.ofString "let"):=by decide +kernel
 have n_both_let:¬(Str.ofString "both" = Str.ofString "let"):=by decide +kernel
 have n_in_let:¬(Str.ofString "in" = Str.ofString "let"):=by decide +kernel
 have n_out_let:¬(Str.ofString "out" = Str.ofString "let"):=by decide +kernel
 have n_rests_hits:¬(Str.ofString "rests" = Str.ofString "hits"):=by decide +kernel
 have n_either_hits:¬(Str.ofString "either" = Str.ofString "hits"):=by decide +kernel
 have n_both_hits:¬(Str.ofString "both" = Str.ofString "hits"):=by decide +kernel
 have n_in_hits:¬(Str.ofString "in" = Str.ofString "hits"):=by decide +kernel
 have n_out_hits:¬(Str.ofString "out" = Str.ofString "hits"):=by decide +kernel
 have n_either_rests:¬(Str.ofString "either" = Str.ofString "rests"):=by decide +kernel
 have n_both_rests:¬(Str.ofString "both" = Str.ofString "rests"):=by decide +kernel
 have n_in_rests:¬(Str.ofString "in" = Str.ofString "rests"):=by decide +kernel
 have n_out_rests:¬(Str.ofString "out" = Str.ofString "rests"):=by decide +kernel
 have n_both_either:¬(Str.ofString "both" = Str.ofString "either"):=by decide +kernel
 have n_in_either:¬(Str.ofString "in" = Str.ofString "either"):=by decide +kernel
 have n_out_either:¬(Str.ofString "out" = Str.ofString "either"):=by decide +kernel
 have n_in_both:¬(Str.ofString "in" = Str.ofString "both"):=by decide +kernel
 have n_out_both:¬(Str.ofString "out" = Str.ofString "both"):=by decide +kernel
 have n_out_in:¬(Str.ofString "out" = Str.ofString "in"):=by decide +kernel
 have le:∀{b:Nat},b<2^n→b<2^8:=fun h=>yaf h (yag (by decide) hn)
 cases hM with
 | «let» =>
   obtain ⟨v0,us,rfl,⟨p0,rfl,b0⟩,hu⟩:=hv.cons
   obtain rfl:=hu.empty
   rw [if_pos rfl]
   exact qaP (SqL.of f1) rfl (q _ _ (qar.refl _) b0)
abbrev qev:Stmt:=top 82
def qfJ:qam ["words", "deed", "things", "many", "family"] ["words", "deed", "things"] (qag qev):=fsc
inductive Ask (ws:List Str):Str→List Th→(Str→Prop)→Prop
 | show {fs:List Nat}:Fml ws.length fs→Ask ws "show" [.fm fs] (fun t=>t=Tx.fT ws fs)
 | says {fs:List Nat} {a:Nat}:Fml ws.length fs→a<2^ws.length→Ask ws "says" [.fm fs,.nu a] (fun t=>t=if Fam.sayP fs a=true then "yes" else "no")
 | look {fs:List Nat} {a:Nat}:Fml ws.length fs→a<2^ws.length→Ask ws "look" [.fm fs,.nu a] (fun t=>t=qfR ws fs a)
 | held {fs gs as:List Nat} {w:Str}:Fml ws.length fs→Fml ws.length gs→qqA ws.length fs gs = .str w::nV as→w.length≤8→as.length≤8→(∀a∈as,a<2^ws.length)→Ask ws "held" [.fm fs,.fm gs] (fun t=>t=wsT ws w as)
 | compare {fs as:List Nat} {i j:Nat} {w:Str}:Fml ws.length fs→i<ws.length→j<ws.length→i≠j→qoy ws.length (Fam.sayP fs) i j = .str w::nV as→w.length≤8→as.length≤8→(∀a∈as,a<2^ws.length)→Ask ws "compare" [.fm fs,.nu i,.nu j] (fun t=>t=wsT ws w as)
 | turns {fs:List Nat}:Fml ws.length fs→Ask ws "turns" [.fm fs] (fun t=>t=qsi (Fam.trns ws.length (Fam.sayP fs)))
 | ranks {fs:List Nat}:Fml ws.length fs→Ask ws "ranks" [.fm fs] (RkT ws (Fam.sayP fs))
 | weights {fs:List Nat}:Fml ws.length fs→ws.length≤5→fs.length≤63→Ask ws "weights" [.fm fs] (fun t=>∃v,VtR ws.length fs v∧t=vtT ws v)
def qjJ {m:Nat} (hm:m≤8) (f:Nat→Bool):∀n∈Fam.trns m f,n≤256:=fun n hn=>by
 obtain ⟨k,hk,rfl⟩:=ybt.mp hn
 unfold Fam.trn
 exact ydc (ygc _ _) (by rw [ygm];exact yag (n:=2) (by decide) hm)
def qgc (K:W.Frag):Sp:=sp3 fun x y z H Q=>∃(p:Addr) (ws:List Str) (deed:Str) (pt:Addr) (vs:List V) (ths:List Th) (T:Str→Prop),x = .ref p∧H p=some (.lst (sV ws))∧Tx.Wds ws∧y = .str deed∧z = .ref pt∧H pt=some (.lst vs)∧qhH H ths vs∧Ask ws deed ths T∧∀t H',T t→qar H H'→Q (.str t) H'
def qiT {f:Addr} {fd:FuncData} (F:Fun K "answered" "answered" qev f fd) (T:Txt mg) {f_13:Addr} {fd_13:FuncData} (C_13:Cal P w K mg base "show_weights" 3 ["words", "told"] (qrH K) f_13 fd_13) {f_16:Addr} {fd_16:FuncData} (C_16:Cal P w K mg base "show_family" 3 ["words", "family"] (qig K) f_16 fd_16) {f_19:Addr} {fd_19:FuncData} (C_19:Cal P w K mg base "show_looked" 4 ["words", "told"] (qqB K) f_19 fd_19) {f_01:Addr} {fd_01:FuncData} (C_01:Cal P w K mg base "show_word_and_sets" 3 ["words", "told"] (qi5 K) f_01 fd_01) {f_12:Addr} {fd_12:FuncData} (C_12:Cal P w K mg base "show_numbers" 1 ["numbers"] (qfF K) f_12 fd_12) {f_25:Addr} {fd_25:FuncData} (C_25:Cal P w K mg base "show_ranks" 2 ["words", "told"] (qrA K) f_25 fd_25) {f_26:Addr} {fd_26:FuncData} (C_26:Cal P w K mg base "by_weights" 9 ["many", "family"] (quj K) f_26 fd_26) {f_67:Addr} {fd_67:FuncData} (C_67:Cal P w K mg base "says" 2 ["family", "one"] (qfe K) f_67 fd_67) {f_57:Addr} {fd_57:FuncData} (C_57:Cal P w K mg base "looked" 3 ["family", "one"] (qgK K) f_57 fd_57) {f_70:Addr} {fd_70:FuncData} (C_70:Cal P w K mg base "held" 4 ["many", "one", "other"] (qmc K) f_70 fd_70) {f_03:Addr} {fd_03:FuncData} (C_03:Cal P w K mg base "compared_unlike" 5 ["many", "family", "x", "y"] (qsQ K) f_03 fd_03) {f_64:Addr} {fd_64:FuncData} (C_64:Cal P w K mg base "turns" 4 ["many", "family"] (qgN K) f_64 fd_64) {f_65:Addr} {fd_65:FuncData} (C_65:Cal P w K mg base "ranks" 5 ["many", "family"] (qhk K) f_65 fd_65):qaQ P w K mg base CX0 10 f fd ["words", "deed", "things"] (qgc K):=by
 have sc:=qfJ
 refine F.ok qfJ (fun vs H Q E h=>by obtain ⟨_,_,_,rfl,_⟩:=h;rfl) (fun cdv A outer s H vs Q E hr h=>?_)
 obtain ⟨x0,x1,x2,rfl,h⟩:=h
 refine ⟨_,(qac (qat (i:=3) sc.nd rfl (Or.inl rfl) (qav (qaO (K:=K) rfl) (by rfl) T.n_len PySem.boot_len (qaa (pv 0) qab)))
   (qac (qat (i:=4) sc.nd rfl (Or.inl rfl) (qaA (qaS (K:=K) rfl) (pv 2) qae (fun _ _=>rfl)))
   (qac (qaB (qal (qax (K:=K) rfl hr.units0) (pv 1) qaj (qas _)) (qad (qai (pec C_16 hr (qaa (pv 0) (qaa (pv 4) qab))))) qak)
   (qac (qaB (qal (qax (K:=K) rfl hr.units0) (pv 1) qaj (qas _)) (qad (qai (qj6 (qbg (pec C_67 hr (qaa (pv 4) (qaa (qaA (qaS (K:=K) rfl) (pv 2) qae (fun _ _=>rfl)) qab)))) qaj qaj))) qak)
   (qac (qaB (qal (qax (K:=K) rfl hr.units0) (pv 1) qaj (qas _)) (qad (qai (pec C_19 hr (qaa (pv 0) (qaa (pec C_57 hr (qaa (pv 4) (qaa (qaA (qaS (K:=K) rfl) (pv 2) qae (fun _ _=>rfl)) qab))) qab))))) qak)
   (qac (qaB (qal (qax (K:=K) rfl hr.units0) (pv 1) qaj (qas _)) (qad (qai (pec C_01 hr (qaa (pv 0) (qaa (pec C_70 hr (qaa (pv 3) (qaa (pv 4) (qaa (qaA (qaS (K:=K) rfl) (pv 2) qae (fun _ _=>rfl)) qab)))) qab))))) qak)
   (qac (qaB (qal (qax (K:=K) rfl hr.units0) (pv 1) qaj (qas _)) (qad (qai (pec C_01 hr (qaa (pv 0) (qaa (pec C_03 hr (qaa (pv 3) (qaa (pv 4) (qaa (qaA (qaS (K:=K) rfl) (pv 2) qae (fun _ _=>rfl)) (qaa (qaA (qaS (K:=K) rfl) (pv 2) qae (fun _ _=>rfl)) qab))))) qab))))) qak)
   (qac (qaB (qal (qax (K:=K) rfl hr.units0) (pv 1) qaj (qas _)) (qad (qai (pec C_12 hr (qaa (pec C_64 hr (qaa (pv 3) (qaa (pv 4) qab))) qab)))) qak)
   (qac (qaB (qal (qax (K:=K) rfl hr.units0) (pv 1) qaj (qas _)) (qad (qai (pec C_25 hr (qaa (pv 0) (qaa (pec C_65 hr (qaa (pv 3) (qaa (pv 4) qab))) qab))))) qak)
   (qad (qai (pec C_13 hr (qaa (pv 0) (qaa (pec C_26 hr (qaa (pv 3) (qaa (pv 4) qab))) qab)))))))))))))),?_⟩
 refine rdg (σ':=[some x0,some x1,some x2,none,none]) rfl ?_
 obtain ⟨p,ws,deed,pt,vs,ths,T,rfl,f1,hw,rfl,rfl,f2,hv,hA,q⟩:=h
 have h8:=hw.few
 walk_at "rd"
 refine ⟨_,.inl (SqL.of f1),?_⟩
 rw [qaR]
 cases hA with
 | «show» h =>
   obtain ⟨v0,us,rfl,⟨p0,rfl,b0⟩,hu⟩:=hv.cons
   obtain rfl:=hu.empty
   refine qaP (SqL.of f2) rfl ?_
   rw [if_pos rfl]
   exact ⟨_,_,rfl,p,p0,ws,_,rfl,f1,hw,rfl,b0,h.lt,h.few,fun H1 s1=>q _ _ rfl s1⟩
 | @says fs a h ha =>
   obtain ⟨v0,us,rfl,⟨p0,rfl,b0⟩,hu⟩:=hv.cons
   obtain ⟨v1,us',rfl,e1,hu'⟩:=hu.cons
   obtain rfl:=hu'.empty
   cases e1
   refine qaP (SqL.of f2) rfl ?_
   have n_show:¬(Str.ofString "says" = Str.ofString "show"):=by decide +kernel
   rw [if_neg n_show,if_pos rfl]
   refine qaP (SqL.of f2) rfl ⟨_,_,rfl,p0,fs,a,rfl,SqL.of b0,rfl,⟨_,rfl,?_⟩⟩
   cases e:Fam.sayP fs a with
   | true=>exact qez (q _ _ (by rw [e];rfl) (qar.refl _))
   | false=>exact qc4 (q _ _ (by rw [e];rfl) (qar.refl _))
 | @turns fs h =>
   obtain ⟨v0,us,rfl,⟨p0,rfl,b0⟩,hu⟩:=hv.cons
   obtain rfl:=hu.empty
   refine qaP (SqL.of f2) rfl ?_
   have n_show:¬(Str.ofString "turns" = Str.ofString "show"):=by decide +kernel
   have n_says:¬(Str.ofString "turns" = Str.ofString "says"):=by decide +kernel
   have n_look:¬(Str.ofString "turns" = Str.ofString "look"):=by decide +kernel
   have n_held:¬(Str.ofString "turns" = Str.ofString "held"):=by decide +kernel
   have n_compare:¬(Str.ofString "turns" = Str.ofString "compare"):=by decide +kernel
   rw [if_neg n_show,if_neg n_says,if_neg n_look,if_neg n_held,if_neg n_compare,if_pos rfl]
   refine ⟨_,_,rfl,_,p0,_,rfl,h8,rfl,b0,fun H1 p1 hp1 s1 a1=>⟨_,rfl,p1,_,rfl,a1,?_,qjJ h8 _,fun H2 s2=>q _ _ rfl (s1.trans s2)⟩⟩
   unfold Fam.trns
   rw [ycd,ygm]
   omega
 | @held fs gs as w h1 h2 he l1 l2 l3 =>
   obtain ⟨v0,us,rfl,⟨p0,rfl,b0⟩,hu⟩:=hv.cons
   obtain ⟨v1,us',rfl,⟨p1,rfl,b1⟩,hu'⟩:=hu.cons
   obtain rfl:=hu'.empty
   refine qaP (SqL.of f2) rfl ?_
   have n_show:¬(Str.ofString "held" = Str.ofString "show"):=by decide +kernel
   have n_says:¬(Str.ofString "held" = Str.ofString "says"):=by decide +kernel
   have n_look:¬(Str.ofString "held" = Str.ofString "look"):=by decide +kernel
   rw [if_neg n_show,if_neg n_says,if_neg n_look,if_pos rfl]
   refine qaP (SqL.of f2) rfl ⟨_,_,_,rfl,_,p0,p1,_,_,rfl,h8,rfl,SqL.of b0,rfl,SqL.of b1,fun t1 H1 ht1 s1 a1=>?_⟩
   rw [he] at a1
   exact ⟨_,_,rfl,p,t1,ws,w,as,rfl,s1 _ _ f1,hw,rfl,a1,l1,l2,l3,fun H2 s2=>q _ _ rfl (s1.trans s2)⟩
 | @compare fs as i j w h hi hj hij he l1 l2 l3 =>
   obtain ⟨v0,us,rfl,⟨p0,rfl,b0⟩,hu⟩:=hv.cons
   obtain ⟨v1,us',rfl,e1,hu'⟩:=hu.cons
   obtain ⟨v2,us'',rfl,e2,hu''⟩:=hu'.cons
   obtain rfl:=hu''.empty
   cases e1
   cases e2
   refine qaP (SqL.of f2) rfl ?_
   have n_show:¬(Str.ofString "compare" = Str.ofString "show"):=by decide +kernel
   have n_says:¬(Str.ofString "compare" = Str.ofString "says"):=by decide +kernel
   have n_look:¬(Str.ofString "compare" = Str.ofString "look"):=by decide +kernel
   have n_held:¬(Str.ofString "compare" = Str.ofString "held"):=by decide +kernel
   rw [if_neg n_show,if_neg n_says,if_neg n_look,if_neg n_held,if_pos rfl]
   refine qaP (SqL.of f2) rfl (qaP (SqL.of f2) rfl ⟨_,_,_,_,rfl,_,p0,fs,i,j,rfl,h8,rfl,b0,rfl,hi,rfl,hj,hij,fun t1 H1 ht1 s1 a1=>?_⟩)
   rw [he] at a1
   exact ⟨_,_,rfl,p,t1,ws,w,as,rfl,s1 _ _ f1,hw,rfl,a1,l1,l2,l3,fun H2 s2=>q _ _ rfl (s1.trans s2)⟩
 | @look fs a h ha =>
   obtain ⟨v0,us,rfl,⟨p0,rfl,b0⟩,hu⟩:=hv.cons
   obtain ⟨v1,us',rfl,e1,hu'⟩:=hu.cons
   obtain rfl:=hu'.empty
   cases e1
   refine qaP (SqL.of f2) rfl ?_
   have n_show:¬(Str.ofString "look" = Str.ofString "show"):=by decide +kernel
   have n_says:¬(Str.ofString "look" = Str.ofString "says"):=by decide +kernel
   rw [if_neg n_show,if_neg n_says,if_pos rfl]
   have a8:a<256:=yaf ha (yag (n:=2) (by decide) h8)
   have go:∀(t1:Addr) (H1:Hp),qar H H1→Lkd H1 ws.length fs a t1→qqB K [.ref p,.ref t1] H1 (fun x H'=>∃z,x = .str z∧z=qfR ws fs a∧qar H H') E0:=fun t1 H1 s1 L=>⟨_,_,rfl,p,t1,ws,fs,a,rfl,s1 _ _ f1,hw,rfl,L,ha,h.lt,fun H2 s2=>⟨_,rfl,rfl,s1.trans s2⟩⟩
   refine qaP (SqL.of f2) rfl ⟨_,_,rfl,p0,fs,a,rfl,b0,rfl,a8,fun b hb t1 H1 _ s1 c1=>?_,fun e0 k hk t1 H1 _ s1 c1=>?_,fun e0 e1 t1 p1 ps H1 _ _ _ s1 c1 c2 c3=>?_⟩
   · exact ⟨_,_,rfl,p,t1,ws,fs,a,rfl,s1 _ _ f1,hw,rfl,.inl ⟨b,hb,h.lt b (yby hb),c1⟩,ha,h.lt,fun H2 s2=>q _ _ rfl (s1.trans s2)⟩
   · exact ⟨_,_,rfl,p,t1,ws,fs,a,rfl,s1 _ _ f1,hw,rfl,.inr (.inl ⟨e0,k,hk,Tx.nms_lt ha (yby hk),c1⟩),ha,h.lt,fun H2 s2=>q _ _ rfl (s1.trans s2)⟩
   · exact ⟨_,_,rfl,p,t1,ws,fs,a,rfl,s1 _ _ f1,hw,rfl,.inr (.inr ⟨e0,e1,p1,ps,c1,c2,c3⟩),ha,h.lt,fun H2 s2=>q _ _ rfl (s1.trans s2)⟩
 | @ranks fs h =>
   obtain ⟨v0,us,rfl,⟨p0,rfl,b0⟩,hu⟩:=hv.cons
   obtain rfl:=hu.empty
   refine qaP (SqL.of f2) rfl ?_
   have n_show:¬(Str.ofString "ranks" = Str.ofString "show"):=by decide +kernel
   have n_says:¬(Str.ofString "ranks" = Str.ofString "says"):=by decide +kernel
   have n_look:¬(Str.ofString "ranks" = Str.ofString "look"):=by decide +kernel
   have n_held:¬(Str.ofString "ranks" = Str.ofString "held"):=by decide +kernel
   have n_compare:¬(Str.ofString "ranks" = Str.ofString "compare"):=by decide +kernel
   have n_turns:¬(Str.ofString "ranks" = Str.ofString "turns"):=by decide +kernel
   rw [if_neg n_show,if_neg n_says,if_neg n_look,if_neg n_held,if_neg n_compare,if_neg n_turns,if_pos rfl]
   exact ⟨_,_,rfl,_,p0,_,rfl,h8,rfl,b0,fun t1 H1 s1 R1=>⟨_,_,rfl,p,t1,ws,_,H,rfl,s1 _ _ f1,hw,rfl,R1,fun z H2 hz s2=>q z _ hz (s1.trans s2)⟩⟩
 | @weights fs h h5 h63 =>
   obtain ⟨v0,us,rfl,⟨p0,rfl,b0⟩,hu⟩:=hv.cons
   obtain rfl:=hu.empty
   refine qaP (SqL.of f2) rfl ?_
   have n_show:¬(Str.ofString "weights" = Str.ofString "show"):=by decide +kernel
   have n_says:¬(Str.ofString "weights" = Str.ofString "says"):=by decide +kernel
   have n_look:¬(Str.ofString "weights" = Str.ofString "look"):=by decide +kernel
   have n_held:¬(Str.ofString "weights" = Str.ofString "held"):=by decide +kernel
   have n_compare:¬(Str.ofString "weights" = Str.ofString "compare"):=by decide +kernel
   have n_turns:¬(Str.ofString "weights" = Str.ofString "turns"):=by decide +kernel
   have n_ranks:¬(Str.ofString "weights" = Str.ofString "ranks"):=by decide +kernel
   rw [if_neg n_show,if_neg n_says,if_neg n_look,if_neg n_held,if_neg n_compare,if_neg n_turns,if_neg n_ranks]
   exact ⟨_,_,rfl,_,p0,fs,rfl,h5,rfl,b0,h63,h.rise,h.lt,fun t1 v H1 s1 R1 V1=>⟨_,_,rfl,p,t1,ws,v,rfl,s1 _ _ f1,hw,rfl,V1,qm0 R1,fun H2 s2=>q _ _ ⟨v,R1,rfl⟩ (s1.trans s2)⟩⟩
abbrev qeb:Stmt:=qfg (top 78) 1
def qfs:qam ["self", "row", "parts", "deed", "things"] ["self", "row"] (qag qeb):=fsc
def qom {c:TT} {t u:TS} {D:qf2} {σ:L2.St} {H:Hp}:qmS (qsb c t qlP) u D σ H↔c σ H fun b H1=>if b=true then t { D with nx:=u D } σ H1 else u D σ H1:=Iff.rfl
def qgl {α:Type} {k:Str} {v:α}:∀{l:List (Str×α)},l.lookup k=some v→(k,v)∈l
 | [],h=>by cases h
 | (y,u)::l,h=>by
   rw [yfu] at h
   by_cases e:k=y
   · subst e
     simp at h
     subst h
     exact ybe
   · rw [beq_eq_false_iff_ne.mpr e] at h
     exact ybh _ (qgl h)
def qkk {d:Str} {ks:List Str} (h:wanted d=some ks):ks.length≤20:=by
 have:∀p∈qi3,p.2.length≤20:=by decide +kernel
 exact this (d,ks) (qgl h)
def qti (cD:Addr):Sp:=sp2 fun x y H Q=>∃(d pk:Addr) (ws:List Str) (m:List (Str×List Nat)) (z deed:Str) (r ks:List Str) (ths:List Th),x = .ref d∧qgV cD H d pk ws m∧y = .str z∧Prt z deed r ks∧qkH ws m ks r ths ∧
 ((∃(n:Str) (qiF:List Th) (gs:List Nat),ks[0]?=some ("new" : Str)∧ths = .nm n::qiF∧MkR ws.length deed qiF gs∧Fml ws.length gs∧(m.lookup n≠none∨m.length<20)∧∀H',SmB pk H H'→qgV cD H' d pk ws (qkm m n gs)→Q (.str "ok") H') ∨
  ∃(k0:Str) (T:Str→Prop),ks[0]?=some k0∧k0 ≠ "new" ∧ Ask ws deed ths T∧∀t H',T t→qar H H'→Q (.str t) H')
def qiJ {f:Addr} {fd:FuncData} (F:Fun K "say" "Desk.say" qeb f fd) (T:Txt mg) {cD aW:Addr} (Z:Xt P w K mg cD aW) {f_47:Addr} {fd_47:FuncData} (C_47:Cal P w K mg base "parts_of" 1 ["row"] (qh0 K) f_47 fd_47) {f_48:Addr} {fd_48:FuncData} (C_48:Cal P w K mg base "answered" 10 ["words", "deed", "things"] (qgc K) f_48 fd_48) {f_10:Addr} {fd_10:FuncData} (C_10:qgE P w K mg base cD "thing_of" 5 ["self", "kind", "word"] (qmf cD) f_10 fd_10) {f_02:Addr} {fd_02:FuncData} (C_02:qgE P w K mg base cD "look_for_room" 1 ["self", "name"] (qpc cD) f_02 fd_02) {f_71:Addr} {fd_71:FuncData} (C_71:Cal P w K mg base "made" 4 ["many", "deed", "things"] (qpB K) f_71 fd_71):qaQ P w K mg base CX0 11 f fd ["self", "row"] (qti cD):=by
 have sc:=qfs
 refine F.ok qfs (fun vs H Q E h=>by obtain ⟨_,_,rfl,_⟩:=h;rfl) (fun cdv A outer s H vs Q E hr h=>?_)
 obtain ⟨x0,x1,rfl,h⟩:=h
 refine ⟨_,(qac (qat (i:=2) sc.nd rfl (Or.inl rfl) (pec C_47 hr (qaa (pv 1) qab)))
   (qac (qat (i:=3) sc.nd rfl (Or.inl rfl) (qaA (qaS (K:=K) rfl) (pv 2) qae (fun _ _=>rfl)))
   (qac (qcN (i:=4) sc.nd rfl rfl (by rfl) (N:=["kind", "word", "self"]) (nt:=2) (caps:=[0]) qaC rfl (qrj (K:=K) rfl (by rfl) T.n_zip (qaa (qi4 (P:=P) (w:=w) (K:=K) rfl rfl rfl (qd8 (v := .ref aW) (by rfl) Z.gW rfl) (pv 3) (fun _ _=>rfl)) (qaa (qbs (qto (K:=K) rfl) (pv 2) (qbK qae) qch) qab))) (fun _ _ _ _ _=>(qgd (n:=2) rfl (qbd (qan (i:=0) (show List.Nodup (α:=Str) ["kind", "word", "self"] from by decide +kernel) rfl (Or.inl rfl)) (qbd (qan (i:=1) (show List.Nodup (α:=Str) ["kind", "word", "self"] from by decide +kernel) rfl (Or.inl rfl)) qel)))) qjA (fun _ _ _ _ _=>qaF) (fun _ _ _ _ _=>(qbV (pv 2) Z.cl C_10 hr (by decide) (qaa (pv 0) (qaa (pv 1) qab)))))
   (qac (qaB (qal (qax (K:=K) rfl hr.units0) (qaA (qaS (K:=K) rfl) (qi4 (P:=P) (w:=w) (K:=K) rfl rfl rfl (qd8 (v := .ref aW) (by rfl) Z.gW rfl) (pv 3) (fun _ _=>rfl)) qae (fun _ _=>rfl)) qaj (qas _)) (qac (qb3 (qbV (pv 0) Z.cl C_02 hr (by decide) (qaa (qaA (qaS (K:=K) rfl) (pv 4) qae (fun _ _=>rfl)) qab)))
   (qac (qqZ (qoA hr) (qc7 (pv 0) rfl) (qaA (qaS (K:=K) rfl) (pv 4) qae (fun _ _=>rfl)) (pec C_71 hr (qaa (qav (qaO (K:=K) rfl) (by rfl) T.n_len PySem.boot_len (qaa (qc7 (pv 0) rfl) qab)) (qaa (pv 3) (qaa (qbs (qto (K:=K) rfl) (pv 4) (qbK qae) qch) qab)))) rfl)
   (qad (qai qaj)))) qak)
   (qad (qai (pec C_48 hr (qaa (qc7 (pv 0) rfl) (qaa (pv 3) (qaa (pv 4) qab)))))))))),?_⟩
 refine rdg (σ':=[some x0,some x1,none,none,none]) rfl ?_
 obtain ⟨d,pk,ws,m,z,deed,r,ks,ths,rfl,D,rfl,hP,hT,h⟩:=h
 obtain ⟨dx,pw,o1,o2⟩:=D.ob
 obtain ⟨kvs,kd1,kd2⟩:=Z.wn.kv
 obtain ⟨tw,vt,ht⟩:=kd2 deed ks hP.kd
 have lT:=hT.1
 have lN:=hP.ln
 have l20:ks.length≤20:=qkk hP.kd
 walk_at "rd"
 refine ⟨_,rfl,z,deed,r,ks,rfl,hP,fun p1 H1 hp1 s1 a1=>?_⟩
 refine qaP (SqL.of a1) (qb8 (i:=0) rfl) ⟨kvs,Sum.inr deed,rfl,kd1,_,vt,p1,_,rfl,SqL.of a1,fun p2 hp2=>?_⟩
 rw [show (1:Int)=((1:Nat):Int) from rfl,qdY,show (sV (deed::r)).drop 1=sV r from rfl]
 generalize g2:upd H1 p2 _=G2
 have a2:=qao g2
 have s2:=s1.trans (qah g2 hp2)
 refine ⟨tw,p2,⟨rfl,rfl⟩,_,ht G2,_,SqL.of a2,qrM (xs:=sV ks) (ys:=sV r) (by rw [qaR,qaR,lN]) (fun i zs H3=>qar G2 H3∧qhH H3 (ths.take i) zs) ⟨qar.refl _,qhH.nil⟩ (ydc (by rw [qaR];omega) (show 100000≤sizeLine by decide)) (fun i zs H3 hi h=>⟨ht _,SqL.of (h.1 _ _ a2),by rw [←h.2.1,yfb];omega⟩) (fun i x y zs H3 t hx hy h hn3 R R' r1 r2=>?_) fun zs H3 h p3 hp3=>?_⟩
 · obtain ⟨s3,hv⟩:=h
   rw [yco] at hx hy
   cases ek:ks[i]? with
   | none=>rw [ek] at hx;cases hx
   | some k =>
   cases ew:r[i]? with
   | none=>rw [ew] at hy;cases hy
   | some w =>
   rw [ek] at hx
   rw [ew] at hy
   cases hx
   cases hy
   have hi:i<ths.length:=by
     have:=(ycl.mp ek).1
     omega
   have et:ths[i]?=some ths[i]:=ycj hi
   have hth:=hT.2 i k w _ ek ew et
   have s4:=qar.new (o := .tup [.str k,.str w]) hn3
   have D4:=((D.same s2).same s3).same s4
   obtain ⟨dx4,pw4,o4,_⟩:=D4.ob
   (try walk_at "rd")
   refine ⟨_,SqT.of qaf,rfl,_,_,rfl,_,_,rfl,rfl,dx4,_,o4,qcH _ _ (by decide +kernel) (by decide +kernel),_,_,_,rfl,d,pk,ws,m,k,w,_,rfl,D4,rfl,rfl,hth,fun v H5 s5 hv5=>r1 v H5 ⟨(s3.trans s4).trans s5,?_⟩⟩
   rw [ygr,et]
   exact ((hv.same s4).same s5).snoc hv5
 obtain ⟨s3,hv⟩:=h
 rw [qaR,←lT,ydi] at hv
 generalize g3:upd H3 p3 _=G3
 have a3:=qao g3
 have t3:=qah g3 hp3
 have s3:=(s2.trans s3).trans t3
 have hv:=hv.same t3
 have D3:=D.same s3
 clear g3 a1 a2 s1 g2 s2
 refine qom.mpr ?_
 walk_at "rd"
 rcases h with ⟨n,qiF,gs,k0,rfl,hM,hF,hm,q⟩ | ⟨k0,T,e0,k0,hA,q⟩
 · refine ⟨kvs,Sum.inr deed,rfl,kd1,_,vt,qaL (ht _) (qb8 (i:=0) k0) ⟨_,.inl ⟨rfl,rfl⟩,⟨true,congrArg V.bl (decide_eq_true rfl),qez ?_⟩⟩⟩
   obtain ⟨v0,us,rfl,rfl,hu⟩:=hv.cons
   obtain ⟨dx3,pw3,o3,w3⟩:=D3.ob
   refine ⟨dx3,_,o3,qcH _ _ (by decide +kernel) (by decide +kernel),qaP (SqL.of a3) (qaz (j:=0) rfl) ⟨_,_,rfl,d,pk,ws,m,n,rfl,D3,rfl,hm,cD,dx3,_,o3,Z.cl,Z.nw,_,qhW _ _,pw3,rfl,_,.inl (SqL.of w3),p3,_,rfl,SqL.of a3,fun p4 hp4=>?_⟩⟩
   rw [qdY,show (V.str n::us).drop 1=us from rfl,qaR]
   generalize g4:upd G3 p4 _=G4
   have a4:=qao g4
   have t4:=qah g4 hp4
   refine ⟨_,_,_,rfl,ws.length,deed,p4,us,qiF,gs,rfl,D.wd.few,rfl,rfl,a4,hu.same t4,hM,fun p5 H5 s5 a5=>?_⟩
   have D5:=(D3.same t4).same s5
   obtain ⟨dx5,pw5,o5,w5⟩:=D5.ob
   obtain ⟨kv5,c5,k5⟩:=D5.dc
   refine ⟨cD,dx5,_,o5,Z.cl,Z.nk,_,qil _ _,qaP (SqL.of (s5 _ _ (t4 _ _ a3))) (qaz (j:=0) rfl) ⟨pk,rfl,_,qrp.k (k:=Sum.inr n) c5 (qcD (by have:=D5.ms;have:=k5.1;omega)),q _ (fun b o e hb=>by rw [qay hb];exact s5 _ _ (t4 _ _ (s3 _ _ e))) ?_⟩⟩
   refine ⟨⟨dx5,pw5,by rw [qay fun e=>by rw [e,c5] at o5;cases o5];exact o5,by rw [qay fun e=>by rw [e,c5] at w5;cases w5];exact w5⟩,⟨_,qaf,(k5.put a5).same fun p fs h=>by rw [qay fun e=>by rw [e,c5] at h;cases h];exact h⟩,D.wd,fun x fs h=>?_,?_⟩
   · rw [qbo] at h
     by_cases e:x=n
     · rw [if_pos e] at h
       cases h
       exact hF
     · rw [if_neg e] at h
       exact D.fm x fs h
   · rw [qcn]
     have:=D.ms
     cases e:m.lookup n with
     | some gs=>simpa using this
     | none =>
       rcases hm with h | h
       · exact absurd e h
       · simp
         omega
 · refine ⟨kvs,Sum.inr deed,rfl,kd1,_,vt,qaL (ht _) (qb8 (i:=0) e0) ⟨_,.inl ⟨rfl,rfl⟩,⟨false,congrArg V.bl (decide_eq_false fun e=>k0 (V.str.inj e)),qc4 ?_⟩⟩⟩
   obtain ⟨dx3,pw3,o3,w3⟩:=D3.ob
   exact ⟨cD,dx3,_,o3,Z.cl,Z.nw,_,qhW _ _,_,_,_,rfl,pw3,ws,deed,p3,zs,ths,T,rfl,w3,D.wd,rfl,rfl,a3,hv,hA,fun t H4 ht s4=>q t _ ht (s3.trans s4)⟩
abbrev qdw:Stmt:=top 92
def qeJ:qam ["_law_words_here", "_law_found"] ["_law_words_here", "_law_found"] (qag qdw):=fsc
def qr0 (K:W.Frag):Sp:=sp2 fun x y H Q=>∃(p t:Addr) (ws:List Str) (fs:List Nat) (a:Nat),x = .ref p∧H p=some (.lst (sV ws))∧Tx.Wds ws∧y = .ref t∧Lkd H ws.length fs a t∧a<2^ws.length∧(∀b∈fs,b<2^ws.length)∧∀H',qar H H'→Q (.str (qfR ws fs a)) H'
def qii {f:Addr} {fd:FuncData} (F:Fun K "_law_look" "_law_look" qdw f fd) (T:Txt mg) {f_06:Addr} {fd_06:FuncData} (C_06:Cal P w K mg base "_law_set_text" 1 ["_law_words_here", "_law_one"] (qfH K) f_06 fd_06):qaQ P w K mg base CX0 2 f fd ["_law_words_here", "_law_found"] (qr0 K):=by
 have sc:=qeJ
 refine F.ok qeJ (fun vs H Q E h=>by obtain ⟨_,_,rfl,_⟩:=h;rfl) (fun cdv A outer s H vs Q E hr h=>?_)
 obtain ⟨x0,x1,rfl,h⟩:=h
 refine ⟨_,(qac (qaB (qal (qax (K:=K) rfl hr.units0) (qaA (qaS (K:=K) rfl) (pv 1) qae (fun _ _=>rfl)) qaj (qas _)) (qad (qai (qap qaK qaj (pec C_06 hr (qaa (pv 0) (qaa (qaA (qaS (K:=K) rfl) (pv 1) qae (fun _ _=>rfl)) qab)))))) qak)
   (qac (qaB (qal (qax (K:=K) rfl hr.units0) (qaA (qaS (K:=K) rfl) (pv 1) qae (fun _ _=>rfl)) qaj (qas _)) (qad (qai (qap qaK qaj (qaA (qaS (K:=K) rfl) (pv 0) (qaA (qaS (K:=K) rfl) (pv 1) qae (fun _ _=>rfl)) (fun _ _=>rfl))))) qak)
   (qad (qai (qbf yhg yhh yhi (qaM (K:=K) rfl) qaj (qaa (qap (qbe (K:=K) rfl) (qaH (qaa qaj qab)) (qaG (N:=["_law_k", "_law_other", "_law_words_here"]) (nt:=2) (caps:=[0]) qaC rfl (qaJ (qaA (qaS (K:=K) rfl) (pv 1) qae (fun _ _=>rfl))) (fun _ _ _ _ _=>(qgd (n:=2) rfl (qbd (qan (i:=0) (show List.Nodup (α:=Str) ["_law_k", "_law_other", "_law_words_here"] from by decide +kernel) rfl (Or.inl rfl)) (qbd (qan (i:=1) (show List.Nodup (α:=Str) ["_law_k", "_law_other", "_law_words_here"] from by decide +kernel) rfl (Or.inl rfl)) qel)))) qjA (fun _ _ _ _ _=>qaF) (fun _ _ _ _ _=>(qap qaK (qap qaK (qaA (qaS (K:=K) rfl) (pv 2) (pv 0) (fun _ _=>rfl)) qaj) (pec C_06 hr (qaa (pv 2) (qaa (pv 1) qab))))))) qab)))))),?_⟩
 refine rdg (σ':=[some x0,some x1]) rfl ?_
 obtain ⟨p,t,ws,fs,a,rfl,f1,hw,rfl,hL,ha,hb,q⟩:=h
 walk_at "rd"
 have gw:∀k,k<ws.length→ws[k]?=some (ws.getD k Str.empty):=fun k hk=>by rw [yci,ycj hk];rfl
 have gl:∀k,k<ws.length→(ws.getD k Str.empty).length≤8:=fun k hk=>(hw.wd _ (yck (gw k hk))).2.1
 have zz:100000≤sizeLine:=by decide
 obtain ⟨b,e0,hb',f2⟩ | ⟨e0,k,ek,hk,f2⟩ | ⟨e0,ek,p',ps,f2,f3,hr⟩:=hL
 · unfold qfR at q
   rw [e0] at q
   dsimp only at q
   have z1:=Tx.sT_len hw hb'
   have z2:(Str.ofString "misses ").length=7:=by decide +kernel
   rw [show wsT ws "misses" [b]=Str.ofString "misses " ++ Tx.sT ws b from qd1 (l:=[Tx.sT ws b]) (by decide +kernel) (by simp)] at q
   refine qaL (SqT.of f2) (qaz (j:=0) rfl) ⟨_,.inl ⟨rfl,rfl⟩,⟨true,congrArg V.bl (decide_eq_true rfl),qez (qaL (SqT.of f2) (qaz (j:=1) rfl) ?_)⟩⟩
   exact ⟨_,_,rfl,p,ws,b,rfl,f1,hw,rfl,hb',fun H1 s1=>⟨_,rfl,by omega,q _ s1⟩⟩
 · unfold qfR at q
   rw [e0] at q
   dsimp only at q
   rw [ek] at q
   have z1:=gl k hk
   have z2:(Str.ofString "spare ").length=6:=by decide +kernel
   have n1:¬("spare" : Str)=Str.ofString "misses" := by decide +kernel
   have e1:decide (V.str ("spare" : Str)=V.str (Str.ofString "misses"))=false:=decide_eq_false fun e=>n1 (V.str.inj e)
   refine qaL (SqT.of f2) (qaz (j:=0) rfl) ⟨_,.inl ⟨rfl,rfl⟩,⟨false,congrArg V.bl e1,qc4 (qaL (SqT.of f2) (qaz (j:=0) rfl) ⟨_,.inl ⟨rfl,rfl⟩,⟨true,congrArg V.bl (decide_eq_true rfl),qez ?_⟩⟩)⟩⟩
   refine qaL (SqT.of f2) (qaz (j:=1) rfl) (qaP (SqL.of f1) (qb8 (gw k hk)) ⟨_,rfl,by omega,q _ (qar.refl _)⟩)
 unfold qfR at q
 rw [e0] at q
 dsimp only at q
 rw [ek] at q
 have n1:¬("least" : Str)=Str.ofString "spare" := by decide +kernel
 have n2:¬("least" : Str)=Str.ofString "misses" := by decide +kernel
 have e1:decide (V.str ("least" : Str)=V.str (Str.ofString "spare"))=false:=decide_eq_false fun e=>n1 (V.str.inj e)
 have e2:decide (V.str ("least" : Str)=V.str (Str.ofString "misses"))=false:=decide_eq_false fun e=>n2 (V.str.inj e)
 have gk:∀k∈Fam.nms 8 a,k<ws.length:=fun k hk=>Tx.nms_lt ha hk
 have gw2:∀k,k<ws.length→ws[k]?=some (ws.getD k Str.empty):=fun k hk=>by rw [yci,ycj hk];rfl
 have gl2:∀k,k<ws.length→(ws.getD k Str.empty).length≤8:=fun k hk=>(hw.wd _ (yck (gw k hk))).2.1
 have gc:(Str.ofString ":").length=1:=by decide +kernel
 have gs:∀k,k<ws.length→(ws.getD k Str.empty++Str.ofString ":").length≤9:=fun k hk=>by
   rw [Str.length_append,gc]
   have:=gl k hk
   omega
 refine qaL (SqT.of f2) (qaz (j:=0) rfl) ⟨_,.inl ⟨rfl,rfl⟩,⟨false,congrArg V.bl e2,qc4 (qaL (SqT.of f2) (qaz (j:=0) rfl) ⟨_,.inl ⟨rfl,rfl⟩,⟨false,congrArg V.bl e1,qc4 ⟨rfl,qaq (by simp),fun p1 hp1=>?_⟩⟩⟩)⟩⟩
 generalize g1:upd H p1 _=G1
 have a1:=qao g1
 have s1:=qah g1 hp1
 have l8:(Fam.nms 8 a).length≤8:=ydc (ygc _ _) (by simp)
 have lp:=hr.1
 refine qaL (SqT.of (s1 _ _ f2)) (qaz (j:=1) rfl) ⟨p',rfl,⟨_,SqL.of (s1 _ _ f3)⟩,qe3 (xs:=ps.map V.ref) (fun i ys H1=>qar G1 H1∧ys=sV (((Fam.nms 8 a).take i).map (lkT ws fs a))) ⟨qar.refl _,rfl⟩ (ydc (by rw [ycd];omega) (show 100000≤sizeLine by decide)) (fun i ys H1 hi h=>⟨SqL.of (h.1 _ _ (s1 _ _ f3)),by rw [h.2,qaR,ycd,yfb];omega⟩) (fun i x ys H1 hx h R R' r1 r2=>?_) fun ys H1 h p3 hp3=>?_⟩
 · obtain ⟨s3,rfl⟩:=h
   rw [yco] at hx
   cases er:ps[i]? with
   | none=>rw [er] at hx;cases hx
   | some r =>
     rw [er] at hx
     cases hx
     have hi:i<(Fam.nms 8 a).length:=by
       have:=(ycl.mp er).1
       omega
     obtain ⟨o,eo,ho⟩:=hr.2 i _ r (ycj hi) er
     (try walk_at "rd")
     have hk:=ydp hi
     have ob:=hb o (yby eo)
     generalize ek:(Fam.nms 8 a)[i]=k at eo ho hk
     have kl:=gk k hk
     have z1:=gl k kl
     have z2:=gs k kl
     have z3:=Tx.sT_len hw ob
     have zz:100000≤sizeLine:=by decide
     refine ⟨_,SqT.of (s3 _ _ (s1 _ _ ho)),rfl,_,_,rfl,_,_,rfl,rfl,qaP (SqL.of (s3 _ _ (s1 _ _ f1))) (qb8 (gw k kl)) ⟨_,rfl,by omega,_,_,rfl,p,ws,o,rfl,s3 _ _ (s1 _ _ f1),hw,rfl,ob,fun H4 s4=>⟨_,rfl,by omega,r1 _ _ ⟨s3.trans s4,?_⟩⟩⟩⟩
     rw [ygr,ycj hi,ek,ycu]
     show _=List.map V.str (_++_)
     rw [ycu]
     show _=_++[V.str (lkT ws fs a k)]
     unfold lkT
     rw [eo]
     rfl
 obtain ⟨s3,rfl⟩:=h
 generalize g3:upd H1 p3 _=G3
 have a3:=qao g3
 have s3':=s3.trans (qah g3 hp3)
 rw [ycd,lp,ydi] at a3
 refine ⟨p1,p3,_,_,rfl,rfl,SqL.of (s3' _ _ a1),SqL.of a3,ydc (by simp;omega) (show 100000≤sizeLine by decide),fun p4 hp4=>?_⟩
 refine ⟨_,p4,("least" : Str)::(Fam.nms 8 a).map (lkT ws fs a),rfl,rfl,SqL.of qaf,qaD (M:=100) (N:=9) (fun y hy=>?_) (by simp;omega) (by rw [Tx.lit_space];decide) (by decide),q _ ((s1.trans s3').trans (qar.new hp4))⟩
 rcases ybg.mp hy with rfl | hy
 · decide +kernel
 obtain ⟨k,hk,rfl⟩:=ybt.mp hy
 have kl:=gk k hk
 have z2:=gs k kl
 obtain ⟨j,hj,ej⟩:=ycn hk
 obtain ⟨o,eo,ho⟩:=hr.2 j k (ps[j]'(by omega)) (by rw [ycj hj,ej]) (ycj _)
 unfold lkT
 rw [Str.length_append,eo]
 have z3:=Tx.sT_len hw (hb o (yby eo))
 show _+(Tx.sT ws o).length≤_
 omega
abbrev qcP:Stmt:=top 93
def qdH:qam ["_law_words_here", "_law_found"] ["_law_words_here", "_law_found"] (qag qcP):=fsc
def qqR {ws:List Str} {f:Nat→Bool} {t u:Str} (h1:RkT ws f t) (h2:RkT ws f u):u=t:=by
 rcases h1 with ⟨x,y,s,v,a1,a2,n1,p1,p2,rfl⟩ | ⟨n1,rfl⟩
 · rcases h2 with ⟨x',y',s',v',a3,a4,n2,p3,p4,rfl⟩ | ⟨n2,rfl⟩
   · obtain ⟨rfl,rfl⟩:=qji a1 a2 a3 a4 n1 n2 p1 p2 p3 p4
     rfl
   · exact (qgt a1 a2 n2 p1 p2).elim
 · rcases h2 with ⟨x',y',s',v',a3,a4,n2,p3,p4,rfl⟩ | ⟨n2,rfl⟩
   · exact (qgt a3 a4 n1 p3 p4).elim
   · rfl
def qsJ (K:W.Frag):Sp:=sp2 fun x y H Q=>∃(p t:Addr) (ws:List Str) (f:Nat→Bool) (H0:Hp),x = .ref p∧H p=some (.lst (sV ws))∧Tx.Wds ws∧y = .ref t∧Rkd H0 H ws.length f t∧∀z H',RkT ws f z→qar H H'→Q (.str z) H'
def qgJ {f:Addr} {fd:FuncData} (F:Fun K "_law_ranks" "_law_ranks" qcP f fd) (T:Txt mg)  : qaQ P w K mg base CX0 1 f fd ["_law_words_here", "_law_found"] (qsJ K):=by
 have sc:=qdH
 refine F.ok qdH (fun vs H Q E h=>by obtain ⟨_,_,rfl,_⟩:=h;rfl) (fun cdv A outer s H vs Q E hr h=>?_)
 obtain ⟨x0,x1,rfl,h⟩:=h
 refine ⟨_,(qac (qaB (qal (qax (K:=K) rfl hr.units0) (qaA (qaS (K:=K) rfl) (pv 1) qae (fun _ _=>rfl)) qaj (qas _)) (qad (qai (qgn (K:=K) rfl yhg yhh yhi (qaM (K:=K) rfl) qaj (qaa (qaH (qaa qaj (qaa (qaA (qaS (K:=K) rfl) (pv 0) (qaA (qaS (K:=K) rfl) (pv 1) qae (fun _ _=>rfl)) (fun _ _=>rfl)) (qaa (qaA (qaS (K:=K) rfl) (pv 0) (qaA (qaS (K:=K) rfl) (pv 1) qae (fun _ _=>rfl)) (fun _ _=>rfl)) qab)))) qab)))) qak)
   (qad (qai (qgn (K:=K) rfl yhg yhh yhi (qaM (K:=K) rfl) qaj (qaa (qap (qbe (K:=K) rfl) (qaH (qaa qaj qab)) (qaG (N:=["_law_alike", "_law_words_here"]) (nt:=1) (caps:=[0]) qaC rfl (qc0 (K:=K) rfl (qaA (qaS (K:=K) rfl) (pv 1) qae (fun _ _=>rfl))) (fun _ _ _ _ _=>(qan (i:=0) (show List.Nodup (α:=Str) ["_law_alike", "_law_words_here"] from by decide +kernel) rfl (Or.inl rfl))) qaE (fun _ _ _ _ _=>qaF) (fun _ _ _ _ _=>(qgn (K:=K) rfl yhg yhh yhi (qaM (K:=K) rfl) qaj (qaa (qaG (N:=["_law_k", "_law_words_here"]) (nt:=1) (caps:=[1]) qaC rfl (qc0 (K:=K) rfl (pv 0)) (fun _ _ _ _ _=>(qan (i:=0) (show List.Nodup (α:=Str) ["_law_k", "_law_words_here"] from by decide +kernel) rfl (Or.inl rfl))) qaE (fun _ _ _ _ _=>qaF) (fun _ _ _ _ _=>(qaA (qaS (K:=K) rfl) (pv 1) (pv 0) (fun _ _=>rfl)))) qab))))) qab))))),?_⟩
 refine rdg (σ':=[some x0,some x1]) rfl ?_
 obtain ⟨p,t,ws,f,H0,rfl,f1,hw,rfl,hR,q⟩:=h
 have gw:∀k,k<ws.length→ws[k]?=some (ws.getD k Str.empty):=fun k hk=>by rw [yci,ycj hk];rfl
 have gl:∀k,k<ws.length→(ws.getD k Str.empty).length≤8:=fun k hk=>(hw.wd _ (yck (gw k hk))).2.1
 have h8:=hw.few
 walk_at "rd"
 have zz:100000≤sizeLine:=by decide
 obtain ⟨h0,⟨x,y,s,u,hxy,hy,hno,e1,e2,f2⟩ | ⟨hno,p',ps,f2,L⟩⟩:=hR
 · have kx:=gl x (by omega)
   have ky:=gl y hy
   refine qaL (SqT.of f2) (qaz (j:=0) rfl) ⟨_,.inl ⟨rfl,rfl⟩,⟨true,congrArg V.bl (decide_eq_true rfl),qez ⟨rfl,?_⟩⟩⟩
   refine qaL (SqT.of f2) (qaz (j:=1) rfl) (qaP (SqL.of f1) (qb8 (gw x (by omega))) (qaL (SqT.of f2) (qaz (j:=2) rfl) (qaP (SqL.of f1) (qb8 (gw y hy)) ⟨qaq (by simp),fun p1 hp1=>?_⟩)))
   refine ⟨_,p1,[("apart" : Str),ws.getD x Str.empty,ws.getD y Str.empty],rfl,rfl,SqL.of qaf,qaD (M:=8) (N:=3) (fun z hz=>?_) (by simp) (by rw [Tx.lit_space];decide) (by decide),q _ _ (.inl ⟨x,y,s,u,hxy,hy,hno,e1,e2,rfl⟩) (qar.new hp1)⟩
   rcases ybg.mp hz with rfl | hz
   · decide +kernel
   rcases ybg.mp hz with rfl | hz
   · exact kx
   · rw [yei.mp hz]
     exact ky
 have n1:¬("ranks" : Str)=Str.ofString "apart" := by decide +kernel
 have e1:decide (V.str ("ranks" : Str)=V.str (Str.ofString "apart"))=false:=decide_eq_false fun e=>n1 (V.str.inj e)
 refine qaL (SqT.of f2) (qaz (j:=0) rfl) ⟨_,.inl ⟨rfl,rfl⟩,⟨false,congrArg V.bl e1,qc4 ⟨rfl,qaq (by simp),fun p1 hp1=>?_⟩⟩⟩
 generalize g1:upd H p1 _=G1
 have a1:=qao g1
 have s1:=qah g1 hp1
 have gL:∀l∈rkd (Fam.trns ws.length f),l.length≤8∧∀k∈l,k<ws.length:=fun l hl=>by
   obtain ⟨b,_,rfl⟩:=ybt.mp hl
   unfold rkV
   rw [qbc]
   exact ⟨ydc (ygc _ _) (by rw [ygm];exact h8),fun k hk=>ybk.mp (ybb.mp hk).1⟩
 have lR:(rkd (Fam.trns ws.length f)).length≤8:=by
   unfold rkd
   rw [ycd,ygl]
   exact qof _ (by rw [qbc];exact h8)
 generalize eLL:rkd (Fam.trns ws.length f)=LL at L gL lR
 have lps:=L.2.2.1
 refine qaL (SqT.of (s1 _ _ f2)) (qaz (j:=1) rfl) ⟨p',rfl,⟨_,SqL.of (s1 _ _ L.2.1)⟩,qe3 (xs:=ps.map V.ref) (fun i ys H1=>qar G1 H1∧ys=sV ((LL.take i).map (alT ws))) ⟨qar.refl _,rfl⟩ (qaq (by rw [ycd];omega)) (fun i ys H1 hi h=>⟨SqL.of (h.1 _ _ (s1 _ _ L.2.1)),by rw [h.2,qaR,ycd,yfb];omega⟩) (fun i x ys H1 hx h R R' r1 r2=>?_) fun ys H1 h p3 hp3=>?_⟩
 · obtain ⟨s3,rfl⟩:=h
   rw [yco] at hx
   cases er:ps[i]? with
   | none=>rw [er] at hx;cases hx
   | some r =>
     rw [er] at hx
     cases hx
     have hi:i<LL.length:=by
       have:=(ycl.mp er).1
       omega
     have el:LL[i]?=some LL[i]:=ycj hi
     have hq:=(L.2.2.2 i r _ er el).2
     obtain ⟨gl1,gl2⟩:=gL _ (yck el)
     (try walk_at "rd")
     refine ⟨rfl,⟨_,SqL.of (s3 _ _ (s1 _ _ hq))⟩,qbQ (fs:=LL[i]) (fun _=>true) (fun k => .str (ws.getD k Str.empty)) (SqL.of (s3 _ _ (s1 _ _ hq))) (by omega) (fun k hm H4 s4 R1 R2 r3 r4=>?_) fun H4 p4 s4 hp4=>?_⟩
     · (try walk_at "rd")
       exact qaP (SqL.of (s4 _ _ (s3 _ _ (s1 _ _ f1)))) (qb8 (gw k (gl2 k hm))) (r3 rfl _ (qar.refl _))
     rw [ygf.mpr fun _ _=>rfl,qbu]
     refine ⟨_,p4,_,rfl,rfl,SqL.of qaf,qaD (M:=8) (N:=8) (fun y hy=>?_) (by rw [ycd];exact gl1) (by rw [qiB];decide) (by decide),r1 _ _ ⟨(s3.trans s4).trans (qar.new hp4),?_⟩⟩
     · obtain ⟨k,hk',rfl⟩:=ybt.mp hy
       exact gl k (gl2 k hk')
     rw [ygr,el,ycu]
     show _=List.map V.str (_++_)
     rw [ycu]
     rfl
 obtain ⟨s3,rfl⟩:=h
 generalize g3:upd H1 p3 _=G3
 have a3:=qao g3
 have s3':=s3.trans (qah g3 hp3)
 rw [ycd,lps,ydi] at a3
 refine ⟨p1,p3,_,_,rfl,rfl,SqL.of (s3' _ _ a1),SqL.of a3,qaq (by simp;omega),fun p4 hp4=>?_⟩
 refine ⟨_,p4,("ranks" : Str)::LL.map (alT ws),rfl,rfl,SqL.of qaf,qaD (M:=100) (N:=9) (fun y hy=>?_) (by simp;omega) (by rw [Tx.lit_space];decide) (by decide),q _ _ (.inr ⟨hno,by rw [eLL];rfl⟩) ((s1.trans s3').trans (qar.new hp4))⟩
 rcases ybg.mp hy with rfl | hy
 · decide +kernel
 obtain ⟨l,hl,rfl⟩:=ybt.mp hy
 exact qoX hw (gL l hl).1 (gL l hl).2
abbrev qb2:Stmt:=top 94
def qcR:qam ["_law_words_here", "_law_found", "_law_sides"] ["_law_words_here", "_law_found"] (qag qb2):=fsc
def qrI {K:W.Frag} {g:TG} {σ:L2.St} {H:Hp} {a:Addr} {nt:Nat} {caps:List Nat} {tt:TT} {te:TE} {Q:VK} {xs:List V} (f:Nat→V) (hq:H a=some (.tup xs)) (hz:xs.length≤100000)
   (hs:∀i x,xs[i]?=some x→∀H1,qar H H1→∀(R:VK) (R':Hp→Prop),(∀H2,qar H1 H2→R (f i) H2)→g x (qbT nt caps σ) H1 fun σ4 H4=>tt σ4 H4 fun b H5=>if b=true then te σ4 H5 R else R' H5)
   (hd:∀H1 p,qar H H1→H1 p=none→Q (.ref p) (upd H1 p (.lst ((List.range xs.length).map f)))):qcx (Itt K a) nt caps g tt te σ H Q:=by
 refine ⟨fun i m ys H1=>m=xs.length-i∧i≤xs.length∧ys=(List.range i).map f∧qar H H1,⟨_,rfl,ybz _,rfl,qar.refl _⟩,?_⟩
 rintro i m ys H2 ⟨rfl,hi,rfl,s2⟩
 have hq2:SqT K H2 a xs:=SqT.of (s2 _ _ hq)
 by_cases hlt:i<xs.length
 · refine .inr ⟨⟨xs,xs[i],hq2,ycj hlt⟩,ydc (by rw [ycd,ygm];omega) (show 100000≤sizeLine by decide),fun x H3 y=>?_⟩
   obtain ⟨e,y⟩:=y
   subst e
   have hx:=y _ hq2
   refine hs i x hx _ s2 _ _ fun H4 s4=>⟨xs.length-(i+1),by omega,rfl,hlt,?_,s2.trans s4⟩
   rw [yds,ycu]
   rfl
 · obtain rfl:i=xs.length:=by omega
   exact .inl ⟨⟨xs,hq2,yba _⟩,ydc (by rw [ycd,ygm];omega) (show 100000≤sizeLine by decide),fun p hp=>hd H2 p s2 hp⟩
def qp8 {Y Z:List Str} (h1:Y≠[]) (h2:Z≠[]):Str.ofString "trade " ++ _root_.PySem.Txt.join " " Y++Str.ofString " / " ++ _root_.PySem.Txt.join " " Z=_root_.PySem.Txt.join " " ((("trade" : Str)::Y++[("/" : Str)])++Z):=by
 rw [show Str.ofString "trade " = ("trade" : Str) ++ " " by decide +kernel,show Str.ofString " / " = (" " : Str) ++ "/" ++ " " by decide +kernel]
 rw [Tx.lit_space,←Tx.join_app (xs:=("trade" : Str)::Y++[("/" : Str)]) (by simp) h2,←Tx.join_app (xs:=("trade" : Str)::Y) (by simp) (by simp),show ("trade" : Str)::Y=[("trade" : Str)]++Y from rfl,←Tx.join_app (by simp) h1,Tx.join_one,Tx.join_one]
 simp only [qcW]
def qrz (K:W.Frag):Sp:=sp2 fun x y H Q=>∃(p t:Addr) (ws:List Str) (v:Vt),x = .ref p∧H p=some (.lst (sV ws))∧Tx.Wds ws∧y = .ref t∧VtH H t v∧VtB ws.length v∧∀H',qar H H'→Q (.str (vtT ws v)) H'
def qfE {f:Addr} {fd:FuncData} (F:Fun K "_law_weights" "_law_weights" qb2 f fd) (T:Txt mg) {f_06:Addr} {fd_06:FuncData} (C_06:Cal P w K mg base "_law_set_text" 1 ["_law_words_here", "_law_one"] (qfH K) f_06 fd_06):qaQ P w K mg base CX0 2 f fd ["_law_words_here", "_law_found"] (qrz K):=by
 have sc:=qcR
 refine F.ok qcR (fun vs H Q E h=>by obtain ⟨_,_,rfl,_⟩:=h;rfl) (fun cdv A outer s H vs Q E hr h=>?_)
 obtain ⟨x0,x1,rfl,h⟩:=h
 refine ⟨_,(qac (qaB (qal (qax (K:=K) rfl hr.units0) (qaA (qaS (K:=K) rfl) (pv 1) qae (fun _ _=>rfl)) qaj (qas _)) (qad (qai (qgn (K:=K) rfl yhg yhh yhi (qaM (K:=K) rfl) qaj (qaa (qap (qbe (K:=K) rfl) (qaH (qaa qaj qab)) (qaG (N:=["_law_number"]) (nt:=1) (caps:=[]) qaC rfl (qc0 (K:=K) rfl (qap (qbe (K:=K) rfl) (qaT qcF (by rfl) T.n_list PyProof.Rows.boot_list (qaa (qaA (qaS (K:=K) rfl) (pv 1) qae (fun _ _=>rfl)) qab)) (qaH (qaa (qaA (qaS (K:=K) rfl) (pv 1) qae (fun _ _=>rfl)) qab)))) (fun _ _ _ _ _=>(qan (i:=0) (show List.Nodup (α:=Str) ["_law_number"] from by decide +kernel) rfl (Or.inl rfl))) qaE (fun _ _ _ _ _=>qaF) (fun _ _ _ _ _=>(qaT qcV (by rfl) T.n_str PyProof.Rows.boot_str (qaa (pv 0) qab))))) qab)))) qak)
   (qac (qcN (i:=2) sc.nd rfl rfl (by rfl) (N:=["_law_some", "_law_words_here"]) (nt:=1) (caps:=[0]) qaC rfl (qjm (qbs (qhe (K:=K) rfl) (pv 1) (qbK qae) qch)) (fun _ _ _ _ _=>(qan (i:=0) (show List.Nodup (α:=Str) ["_law_some", "_law_words_here"] from by decide +kernel) rfl (Or.inl rfl))) qaE (fun _ _ _ _ _=>qaF) (fun _ _ _ _ _=>(qgn (K:=K) rfl yhg yhh yhi (qaM (K:=K) rfl) qaj (qaa (qaG (N:=["_law_one", "_law_words_here"]) (nt:=1) (caps:=[1]) qaC rfl (qc0 (K:=K) rfl (pv 0)) (fun _ _ _ _ _=>(qan (i:=0) (show List.Nodup (α:=Str) ["_law_one", "_law_words_here"] from by decide +kernel) rfl (Or.inl rfl))) qaE (fun _ _ _ _ _=>qaF) (fun _ _ _ _ _=>(pec C_06 hr (qaa (pv 1) (qaa (pv 0) qab))))) qab))))
   (qad (qai (qap qaK (qap qaK (qap qaK qaj (qaA (qaS (K:=K) rfl) (pv 2) qae (fun _ _=>rfl))) qaj) (qaA (qaS (K:=K) rfl) (pv 2) qae (fun _ _=>rfl))))))),?_⟩
 refine rdg (σ':=[some x0,some x1,none]) rfl ?_
 obtain ⟨p,t,ws,v,rfl,f1,hw,rfl,hV,hB,q⟩:=h
 walk_at "rd"
 have zz:100000≤sizeLine:=by decide
 have h8:=hw.few
 cases v with
 | w N b =>
   obtain ⟨pw,f2,f3⟩:=hV
   obtain ⟨hl,hn,hb⟩:=hB
   refine qaL (SqT.of f2) (qaz (j:=0) rfl) ⟨_,.inl ⟨rfl,rfl⟩,⟨true,congrArg V.bl (decide_eq_true rfl),qez ⟨rfl,qaq (by simp),fun p0 hp0=>?_⟩⟩⟩
   generalize g0:upd H p0 _=G0
   have a0:=qao g0
   have s0:=qah g0 hp0
   refine qaL (SqT.of (s0 _ _ f2)) (qaz (j:=1) rfl) ⟨pw,rfl,_,.inl (SqL.of (s0 _ _ f3)),fun p1 hp1=>?_⟩
   generalize g1:upd G0 p1 _=G1
   have a1:G1 p1=some (.lst (nV N)):=qao g1
   have s1:=s0.trans (qah g1 hp1)
   refine qaL (SqT.of (s1 _ _ f2)) (qaz (j:=2) rfl) ⟨qaq (by simp),fun p2 hp2=>?_⟩
   generalize g2:upd G1 p2 _=G2
   have a2:G2 p2=some (.lst (nV [b])):=qao g2
   have s2:=s1.trans (qah g2 hp2)
   have a1:=qah g2 hp2 _ _ a1
   refine ⟨p1,p2,_,_,rfl,rfl,SqL.of a1,SqL.of a2,qaq (by rw [qa1,qa1,yfn];omega),fun p3 hp3=>?_⟩
   rw [qfr]
   generalize g3:upd G2 p3 _=G3
   have a3:=qao g3
   have s3:=s2.trans (qah g3 hp3)
   have a0:=qah g3 hp3 _ _ (qah g2 hp2 _ _ (qah g1 hp1 _ _ a0))
   refine ⟨p3,rfl,⟨_,SqL.of a3⟩,qbQ (fs:=N++[b]) (fun _=>true) (fun n => .str (Str.ofString (toString ((n:Nat):Int)))) (SqL.of a3) (by simp;omega) (fun n hm H5 s5 R R' r1 r2=>?_) fun H5 p5 s5 hp5=>?_⟩
   · (try walk_at "rd")
     have:=qgQ hn hb n hm
     exact ⟨by rw [yhq];exact ybl (yhr n) (by omega),r1 rfl _ (qar.refl _)⟩
   rw [ygf.mpr fun _ _=>rfl,qbu]
   generalize g5:upd H5 p5 _=G5
   have a5:=qao g5
   have t5:=s5.trans (qah g5 hp5)
   refine ⟨p0,p5,_,_,rfl,rfl,SqL.of (t5 _ _ a0),SqL.of a5,qaq (by rw [qaR,ycd];simp;omega),fun p6 hp6=>?_⟩
   have e:_root_.PySem.Txt.join " " (("weights" : Str)::(N++[b]).map fun n=>Str.ofString (toString ((n:Nat):Int)))=vtT ws (.w N b):=qd1 (by decide +kernel) (by simp)
   rw [←e] at q
   refine ⟨_,p6,("weights" : Str)::(N++[b]).map fun n=>Str.ofString (toString ((n:Nat):Int)),rfl,rfl,SqL.of qaf,qaD (M:=8) (N:=10) (fun y hy=>?_) (by simp;omega) (by rw [Tx.lit_space];decide) (by decide),q _ ((s3.trans t5).trans (qar.new hp6))⟩
   rcases ybg.mp hy with rfl | hy
   · decide +kernel
   obtain ⟨n,hm,rfl⟩:=ybt.mp hy
   exact ydc (qgZ n (qgQ hn hb n hm)) (by decide)
 | t ys ns =>
   obtain ⟨p1,p2,f2,f3,f4⟩:=hV
   obtain ⟨ly,ln,hy,hn⟩:=hB
   have n1:¬("trade" : Str)=Str.ofString "weights" := by decide +kernel
   have e1:decide (V.str ("trade" : Str)=V.str (Str.ofString "weights"))=false:=decide_eq_false fun e=>n1 (V.str.inj e)
   refine qaL (SqT.of f2) (qaz (j:=0) rfl) ⟨_,.inl ⟨rfl,rfl⟩,⟨false,congrArg V.bl e1,qc4 ?_⟩⟩
   refine ⟨t,_,rfl,SqT.of f2,(fun z=>absurd z.1 (show ¬HT.sIx 3 0 (some 1)=0 by decide)),fun pt hpt=>?_⟩
   have ec:qiS [V.str ("trade" : Str),V.ref p1,V.ref p2] (some 1) none=[V.ref p1,V.ref p2]:=rfl
   rw [ec]
   generalize gt:upd H pt _=Gt
   have at2:=qao gt
   have st:=qah gt hpt
   have f1:=st _ _ f1
   have f3:=st _ _ f3
   have f4:=st _ _ f4
   have key:∀(i:Nat) (x:V),[V.ref p1,V.ref p2][i]?=some x→∃(r:Addr) (L:List Nat),x = .ref r∧Gt r=some (.lst (nV L))∧L.length=2∧(∀b∈L,b<2^ws.length)∧(if i=0 then ys else ns)=L:=fun i x hx=>by
     match i,hx with
     | 0,hx=>cases hx;exact ⟨p1,ys,rfl,f3,ly,hy,rfl⟩
     | 1,hx=>cases hx;exact ⟨p2,ns,rfl,f4,ln,hn,rfl⟩
   refine ⟨pt,rfl,⟨_,SqT.of at2⟩,qrI (xs:=[V.ref p1,V.ref p2]) (fun i => .str (_root_.PySem.Txt.join " " ((if i=0 then ys else ns).map (Tx.sT ws)))) at2 (by simp) (fun i x hx H1 s1 R R' r1=>?_) fun H1 p6 s1 hp6=>?_⟩
   · obtain ⟨r,L,rfl,fr,l2,hL,e⟩:=key i x hx
     rw [e] at r1
     have fr:=s1 _ _ fr
     (try walk_at "rd")
     refine ⟨rfl,⟨_,SqL.of fr⟩,qbQ (fs:=L) (fun _=>true) (fun b => .str (Tx.sT ws b)) (SqL.of fr) (by omega) (fun b hb' H2 s2 R1 R2 r3 r4=>?_) fun H2 p3 s2 hp3=>?_⟩
     · (try walk_at "rd")
       exact ⟨_,_,rfl,p,ws,b,rfl,s2 _ _ (s1 _ _ f1),hw,rfl,hL b hb',fun H3 s3=>r3 rfl _ s3⟩
     rw [ygf.mpr fun _ _=>rfl,qbu]
     refine ⟨_,p3,L.map (Tx.sT ws),rfl,rfl,SqL.of qaf,qaD (M:=72) (N:=2) (fun y hy=>?_) (by rw [ycd];omega) (by rw [Tx.lit_space];decide) (by decide),r1 _ (s2.trans (qar.new hp3))⟩
     obtain ⟨b,hb',rfl⟩:=ybt.mp hy
     exact Tx.sT_len hw (hL b hb')
   generalize g6:upd H1 p6 _=G6
   have a6:G6 p6=some (.lst (sV [_root_.PySem.Txt.join " " (ys.map (Tx.sT ws)),_root_.PySem.Txt.join " " (ns.map (Tx.sT ws))])):=qao g6
   have s6:=(st.trans s1).trans (qah g6 hp6)
   have e:=qp8 (Y:=ys.map (Tx.sT ws)) (Z:=ns.map (Tx.sT ws)) (fun z=>by rw [ygo.mp z] at ly;cases ly) (fun z=>by rw [ygo.mp z] at ln;cases ln)
   have jl:∀L:List Nat,L.length=2→(∀b∈L,b<2^ws.length)→(_root_.PySem.Txt.join " " (L.map (Tx.sT ws))).length≤200:=fun L l2 hL=>by
     rw [←Tx.len_sg,Tx.lit_space,Tx.txt_join]
     refine ydc (Tx.jn_len (M:=72) fun x hx=>?_) (show _*73≤_ by rw [ycd,ycd];omega)
     obtain ⟨w,hw',rfl⟩:=ybt.mp hx
     obtain ⟨b,hb',rfl⟩:=ybt.mp hw'
     rw [Tx.len_sg]
     exact Tx.sT_len hw (hL b hb')
   have j1:=jl ys ly hy
   have j2:=jl ns ln hn
   have l6:(Str.ofString "trade ").length=6:=by decide +kernel
   have l3:(Str.ofString " / ").length=3:=by decide +kernel
   (try walk_at "rd")
   rw [show vtT ws (.t ys ns)=_ from e.symm] at q
   refine qaP (SqL.of a6) (qb8 (i:=0) rfl) ⟨_,rfl,by omega,by rw [Str.length_append];omega,qaP (SqL.of a6) (qb8 (i:=1) rfl) ⟨_,rfl,by rw [Str.length_append,Str.length_append];omega,q _ s6⟩⟩
abbrev qcE:Stmt:=top 95
def qd6:qam ["_law_many", "_law_words_here", "_law_one", "_law_other", "_law_cell_here", "_law_sets", "_law_k", "_law_some", "_law_text_here", "_law_way", "_law_x", "_law_y", "_law_found", "_law_told"] ["_law_many", "_law_words_here", "_law_one", "_law_other", "_law_cell_here"] (qag qcE):=fsc
def qdC {X:Cx} {te:TE} {es:List Expr} {t:TA} {l o r p} (ha:PE X (.BinOp l o r p) te) (hr:PA X es t):PA X (.BinOp l o r p::es) (qdL te t):=qaa ha hr
def qd0 {X:Cx} {te:TE} {es:List Expr} {t:TA} {l r p} (ha:PE X (.Subscript l r p) te) (hr:PA X es t):PA X (.Subscript l r p::es) (qdL te t):=qaa ha hr
def qnF {X:Cx} {te:TE} {es:List Expr} {t:TA} {l o r p} (ha:PE X (.ListComp l o r p) te) (hr:PA X es t):PA X (.ListComp l o r p::es) (qdL te t):=qaa ha hr
def qit:∀(ds:List Str) (w:Str),pre ds w=pre ds Str.empty++w
 | [],w=>by
   show w=(⟨#[]++w.cps⟩:Str)
   rw [Array.empty_append]
 | d::ds,w=>by
   show d ++ " " ++ pre ds w=(d ++ " " ++ pre ds Str.empty)++w
   rw [qit ds w,qcW,qcW,qcW]
def qmk {ws:List Str} {a:Nat} {z d:Str} (hw:Tx.Wds ws) (ha:a<2^ws.length) (hz:z=pre [d, "a"] Str.empty) (h1:wanted d=some (["family", "set"]:List Str)) (hd:¬d = "let") (hf:∀x∈[d,("a" : Str)],32∉Tx.sg x) (hs:z.length≤100):Prt (z++Tx.sT ws a) d ["a",Tx.sT ws a] ["family", "set"]:=by
 have e:z++Tx.sT ws a=pre [d, "a"] (Tx.sT ws a):=by rw [qit,hz]
 rw [e]
 refine qkP (ds:=["a"]) h1 hd hf (Tx.sT_free hw ha) rfl ?_
 rw [←e,Str.length_append]
 have:=Tx.sT_len hw ha
 omega
def qqt {v w:Str} (hv:Tx.Wd v) (hw:Tx.Wd w):Prt (_root_.PySem.Txt.join " " [Str.ofString "compare a",v,w]) "compare" ["a",v,w] ["family", "name", "name"]:=by
 have e:_root_.PySem.Txt.join " " [Str.ofString "compare a",v,w]=pre ["compare", "a",v] w:=by
   show _=("compare" : Str) ++ " " ++ (("a" : Str) ++ " " ++ (v ++ " " ++ w))
   rw [qd1 (z:=Str.ofString "compare a ") (by decide +kernel) (by simp),qd1 (l:=[w]) rfl (by simp),show Str.ofString "compare a " = ("compare" : Str) ++ " " ++ (("a" : Str) ++ " ") by decide +kernel,show _root_.PySem.Txt.join " " [w]=w from rfl]
   simp only [qcW]
 rw [e]
 refine qkP (ds:=["a",v]) (by decide +kernel) (by decide +kernel) (fun d hd=>?_) (hw.free (by decide)) rfl ?_
 · rcases ybg.mp hd with rfl | hd
   · decide +kernel
   · rcases ybg.mp hd with rfl | hd
     · decide +kernel
     · rw [yei.mp hd]
       exact hv.free (by decide)
 show (("compare" : Str) ++ " " ++ (("a" : Str) ++ " " ++ (v ++ " " ++ w))).length≤_
 have:=hv.2.1
 have:=hw.2.1
 simp only [Str.length_append,show ("compare" : Str).length=7 by decide +kernel,show (" " : Str).length=1 by decide +kernel,show ("a" : Str).length=1 by decide +kernel]
 omega
def qnY {m:Nat} {fs gs:List Nat} (hf:∀b∈fs,b<2^m) (hg:∀b∈gs,b<2^m):∃(w:Str) (as:List Nat),qqA m fs gs = .str w::nV as∧w.length≤8∧as.length≤8∧∀a∈as,a<2^m:=by
 unfold qqA
 cases e1:qhn fs gs with
 | some a =>
   have h1:=List.find?_some e1
   have h2:=hf a (yby e1)
   cases e2:qiV gs a with
   | none=>rw [e2] at h1;cases h1
   | some b =>
     refine ⟨"apart",[a,b],by show [V.str _,V.int _,oV (qiV gs a)]=_;rw [e2];rfl,by decide +kernel,by simp,fun x hx=>?_⟩
     rcases ybg.mp hx with rfl | hx
     · exact h2
     · rw [yei.mp hx]
       exact hg b (yby e2)
 | none =>
   cases e2:qei m fs gs with
   | some s=>exact ⟨"neither",[s],rfl,by decide +kernel,by simp,fun x hx=>by rw [yei.mp hx];exact ybk.mp (yby e2)⟩
   | none=>exact ⟨"each",[],rfl,by decide +kernel,by simp,fun x hx=>by cases hx⟩
def qn2 (n:Nat) (f:Nat→Bool) (i j:Nat):∃(w:Str) (as:List Nat),qoy n f i j = .str w::nV as∧w.length≤8∧as.length≤8∧∀a∈as,a<2^n:=by
 unfold qoy
 cases e1:Fam.part n f i j with
 | none =>
   cases e2:Fam.part n f j i with
   | none=>exact ⟨"alike",[],rfl,by decide +kernel,by decide,fun a ha=>(by cases ha)⟩
   | some t=>exact ⟨"lighter",[t],rfl,by decide +kernel,by simp,fun a ha=>(by rw [yei.mp ha];exact (Fam.part_some e2).1)⟩
 | some s =>
   cases e2:Fam.part n f j i with
   | none=>exact ⟨"heavier",[s],rfl,by decide +kernel,by simp,fun a ha=>(by rw [yei.mp ha];exact (Fam.part_some e1).1)⟩
   | some t =>
     refine ⟨"apart",[s,t],rfl,by decide +kernel,by simp,fun a ha=>?_⟩
     rcases ybg.mp ha with rfl | ha
     · exact (Fam.part_some e1).1
     · rw [yei.mp ha]
       exact (Fam.part_some e2).1
def qpK (x a k1 k:Nat):((x:Nat)+1+((a:Nat):Int)%((k1:Nat):Int))%((k:Nat):Int)=(((x+1+a%k1)%k:Nat):Int):=by
 rw [yht,Int.natCast_add,Int.natCast_add,yht]
 rfl
def qul {M x r:Nat} (hx:x<M) (hr:r+1<M):(x+1+r)%M≠x∧(x+1+r)%M<M:=by
 refine ⟨?_,yee _ (by omega)⟩
 by_cases h:x+1+r<M
 · rw [yho h]
   omega
 · rw [Nat.mod_eq_sub_mod (by omega),yho (by omega)]
   omega
def qrs (ws:List Str) (A B:List Nat) (row owed:Str):Prop:=∃(deed:Str) (r ks:List Str) (ths:List Th) (k0:Str) (T:Str→Prop),Prt row deed r ks∧(∀m:List (Str×List Nat),m.lookup ("a" : Str)=some A→m.lookup ("b" : Str)=some B→qkH ws m ks r ths)∧ks[0]?=some k0∧k0 ≠ "new" ∧ Ask ws deed ths T∧∀t,T t→t=owed
def sp5 (R:V→V→V→V→V→Hp→VK→Prop):Sp:=fun vs H Q _=>∃a b c d e,vs=[a,b,c,d,e]∧R a b c d e H Q
def qjB (K:W.Frag):Sp:=sp5 fun x y z u v H Q=>∃(p pa pb:Addr) (ws:List Str) (A B:List Nat) (c:Int),x = .int (ws.length:Nat)∧y = .ref p∧z = .ref pa∧u = .ref pb∧v = .int c∧ws.length≤5∧H p=some (.lst (sV ws))∧Tx.Wds ws∧H pa=some (.lst (nV A))∧Fml ws.length A∧H pb=some (.lst (nV B))∧Fml ws.length B∧∀(t:Addr) (row owed:Str) (H':Hp),qar H H'→H' t=some (.tup [.str row,.str owed])→qrs ws A B row owed→Q (.ref t) H'
def qgG {f:Addr} {fd:FuncData} (F:Fun K "_law_asked" "_law_asked" qcE f fd) (T:Txt mg) {f_06:Addr} {fd_06:FuncData} (C_06:Cal P w K mg base "_law_set_text" 1 ["_law_words_here", "_law_one"] (qfH K) f_06 fd_06) {f_40:Addr} {fd_40:FuncData} (C_40:Cal P w K mg base "_law_mix" 1 ["_law_cell_here", "_law_k"] qm1 f_40 fd_40) {f_70:Addr} {fd_70:FuncData} (C_70:Cal P w K mg base "held" 4 ["many", "one", "other"] (qmc K) f_70 fd_70) {f_45:Addr} {fd_45:FuncData} (C_45:Cal P w K mg base "compared" 4 ["many", "family", "x", "y"] (qek K) f_45 fd_45) {f_14:Addr} {fd_14:FuncData} (C_14:Cal P w K mg base "_law_weights" 2 ["_law_words_here", "_law_found"] (qrz K) f_14 fd_14) {f_38:Addr} {fd_38:FuncData} (C_38:Cal P w K mg base "_law_look" 2 ["_law_words_here", "_law_found"] (qr0 K) f_38 fd_38) {f_27:Addr} {fd_27:FuncData} (C_27:Cal P w K mg base "_law_ranks" 1 ["_law_words_here", "_law_found"] (qsJ K) f_27 fd_27) {f_26:Addr} {fd_26:FuncData} (C_26:Cal P w K mg base "by_weights" 9 ["many", "family"] (quj K) f_26 fd_26) {f_57:Addr} {fd_57:FuncData} (C_57:Cal P w K mg base "looked" 3 ["family", "one"] (qgK K) f_57 fd_57) {f_65:Addr} {fd_65:FuncData} (C_65:Cal P w K mg base "ranks" 5 ["many", "family"] (qhk K) f_65 fd_65) {f_67:Addr} {fd_67:FuncData} (C_67:Cal P w K mg base "says" 2 ["family", "one"] (qfe K) f_67 fd_67) {f_64:Addr} {fd_64:FuncData} (C_64:Cal P w K mg base "turns" 4 ["many", "family"] (qgN K) f_64 fd_64):qaQ P w K mg base CX0 10 f fd ["_law_many", "_law_words_here", "_law_one", "_law_other", "_law_cell_here"] (qjB K):=by
 have sc:=qd6
 refine F.ok qd6 (fun vs H Q E h=>by obtain ⟨_,_,_,_,_,rfl,_⟩:=h;rfl) (fun cdv A outer s H vs Q E hr h=>?_)
 obtain ⟨x0,x1,x2,x3,x4,rfl,h⟩:=h
 apply Exists.intro
 apply And.intro
 · apply qac
   · exact (qat (i:=5) sc.nd rfl (Or.inl rfl) qae)
   apply qac
   · exact (qaY PassesOwn.never rfl (qaI (by rfl) T.n_range (qaw (pv 0) qab)) (qan (i:=6) sc.nd rfl (Or.inl rfl)) (qad (qat (i:=5) sc.nd rfl (Or.inl rfl) (qap qcr qae (pv 5)))))
   apply qac
   · exact (qat (i:=7) sc.nd rfl (Or.inl rfl) (qap qaW (pec C_40 hr (qaw (pv 4) (qa3 qae qab))) (pv 5)))
   apply qac
   · exact (qat (i:=8) sc.nd rfl (Or.inl rfl) (pec C_06 hr (qaw (pv 1) (qaw (pv 7) qab))))
   apply qac
   · exact (qat (i:=9) sc.nd rfl (Or.inl rfl) (qap qaW (pec C_40 hr (qaw (pv 4) (qa3 qae qab))) qae))
   apply qac
   · exact (qat (i:=10) sc.nd rfl (Or.inl rfl) (qap qaW (pec C_40 hr (qaw (pv 4) (qa3 qae qab))) (qav (qfL rfl) (by rfl) T.n_max PyProof.Rows.boot_max (qa3 qae (qaw (pv 0) qab)))))
   apply qac
   · exact (qat (i:=11) sc.nd rfl (Or.inl rfl) (qap qaW (qap qa4 (qap qa4 (pv 10) qae) (qap qaW (pec C_40 hr (qaw (pv 4) (qa3 qae qab))) (qav (qfL rfl) (by rfl) T.n_max PyProof.Rows.boot_max (qa3 qae (qdC (qap qfS (pv 0) qae) qab))))) (qav (qfL rfl) (by rfl) T.n_max PyProof.Rows.boot_max (qa3 qae (qaw (pv 0) qab)))))
   apply qac
   · apply qaB
     · exact (qal (qax (K:=K) rfl hr.units0) (pv 9) qae (qas _))
     · apply qad
       exact (qai (qa5 (qdC (qap qaK qaj (pv 8)) (qd0 (qaA (qaS (K:=K) rfl) (qaH (qa3 qaj (qa3 qaj qab))) (qaT qhX (by rfl) T.n_int PyProof.Rows.boot_int (qbt (pec C_67 hr (qaw (pv 2) (qaw (pv 7) qab))) qab)) (fun _ _=>rfl)) qab))))
     · exact qak
   apply qac
   · apply qaB
     · exact (qal (qax (K:=K) rfl hr.units0) (pv 9) qae (qas _))
     · apply qad
       exact (qai (qa5 (qdC (qap qaK qaj (pv 8)) (qbt (pec C_38 hr (qaw (pv 1) (qbt (pec C_57 hr (qaw (pv 2) (qaw (pv 7) qab))) qab))) qab))))
     · exact qak
   apply qac
   · apply qaB
     · exact (qal (qax (K:=K) rfl hr.units0) (pv 9) qae (qas _))
     · apply qac
       · exact (qat (i:=12) sc.nd rfl (Or.inl rfl) (pec C_70 hr (qaw (pv 0) (qaw (pv 2) (qaw (pv 3) qab)))))
       apply qad
       exact (qai (qa5 (qa3 qaj (qbt (qbf yhg yhh yhi (qaM (K:=K) rfl) qaj (qdC (qap (qbe (K:=K) rfl) (qaH (qd0 (qaA (qaS (K:=K) rfl) (pv 12) qae (fun _ _=>rfl)) qab)) (qaG (N:=["_law_number", "_law_words_here"]) (nt:=1) (caps:=[1]) qaC rfl (qjm (qbs (qhe (K:=K) rfl) (pv 12) (qbK qae) qch)) (fun _ _ _ _ _=>(qan (i:=0) (show List.Nodup (α:=Str) ["_law_number", "_law_words_here"] from by decide +kernel) rfl (Or.inl rfl))) qaE (fun _ _ _ _ _=>qaF) (fun _ _ _ _ _=>(pec C_06 hr (qaw (pv 1) (qaw (pv 0) qab)))))) qab)) qab))))
     · exact qak
   apply qac
   · apply qaB
     · exact (PW.pt (qey (qal (qax (K:=K) rfl hr.units0) (pv 9) qae (qas _)) (qdy (qal qkg (pv 0) qae (qas _)))))
     · apply qac
       · exact (qat (i:=12) sc.nd rfl (Or.inl rfl) (pec C_45 hr (qaw (pv 0) (qaw (pv 2) (qaw (pv 10) (qaw (pv 11) qab))))))
       apply qac
       · exact (qat (i:=13) sc.nd rfl (Or.inl rfl) (qbf yhg yhh yhi (qaM (K:=K) rfl) qaj (qdC (qap (qbe (K:=K) rfl) (qaH (qd0 (qaA (qaS (K:=K) rfl) (pv 12) qae (fun _ _=>rfl)) qab)) (qaG (N:=["_law_number", "_law_words_here"]) (nt:=1) (caps:=[1]) qaC rfl (qjm (qbs (qhe (K:=K) rfl) (pv 12) (qbK qae) qch)) (fun _ _ _ _ _=>(qan (i:=0) (show List.Nodup (α:=Str) ["_law_number", "_law_words_here"] from by decide +kernel) rfl (Or.inl rfl))) qaE (fun _ _ _ _ _=>qaF) (fun _ _ _ _ _=>(pec C_06 hr (qaw (pv 1) (qaw (pv 0) qab)))))) qab)))
       apply qad
       exact (qai (qa5 (qbt (qbf yhg yhh yhi (qaM (K:=K) rfl) qaj (qow (qaH (qa3 qaj (qd0 (qaA (qaS (K:=K) rfl) (pv 1) (pv 10) (fun _ _=>rfl)) (qd0 (qaA (qaS (K:=K) rfl) (pv 1) (pv 11) (fun _ _=>rfl)) qab)))) qab)) (qaw (pv 13) qab))))
     · exact qak
   apply qac
   · apply qaB
     · exact (qal (qax (K:=K) rfl hr.units0) (pv 9) qae (qas _))
     · apply qad
       exact (qai (qa5 (qa3 qaj (qbt (qbf yhg yhh yhi (qaM (K:=K) rfl) qaj (qnF (qaG (N:=["_law_number"]) (nt:=1) (caps:=[]) qaC rfl (qaJ (pec C_64 hr (qaw (pv 0) (qaw (pv 2) qab)))) (fun _ _ _ _ _=>(qan (i:=0) (show List.Nodup (α:=Str) ["_law_number"] from by decide +kernel) rfl (Or.inl rfl))) qaE (fun _ _ _ _ _=>qaF) (fun _ _ _ _ _=>(qaT qcV (by rfl) T.n_str PyProof.Rows.boot_str (qaw (pv 0) qab)))) qab)) qab))))
     · exact qak
   apply qac
   · apply qaB
     · exact (qal (qax (K:=K) rfl hr.units0) (pv 9) qae (qas _))
     · apply qad
       exact (qai (qa5 (qa3 qaj (qbt (pec C_27 hr (qaw (pv 1) (qbt (pec C_65 hr (qaw (pv 0) (qaw (pv 2) qab))) qab))) qab))))
     · exact qak
   apply qad
   exact (qai (qa5 (qa3 qaj (qbt (pec C_14 hr (qaw (pv 1) (qbt (pec C_26 hr (qaw (pv 0) (qaw (pv 2) qab))) qab))) qab))))
 refine rdg (σ':=[some x0,some x1,some x2,some x3,some x4,none,none,none,none,none,none,none,none,none]) rfl ?_
 obtain ⟨p,pa,pb,ws,A,B,c,rfl,rfl,rfl,rfl,rfl,h5,f1,hw,fA,hA,fB,hB,q⟩:=h
 have pp:=yai ws.length
 have h8:=hw.few
 have p32:2^ws.length≤32:=yag (n:=2) (by decide) h5
 have lA:A.length≤63:=ydc (Fam.nodup_le _ _ (hA.rise.imp ydx) hA.lt) (by omega)
 have zz:100000≤sizeLine:=by decide
 have l7:(Str.ofString "says a ").length=7:=by decide +kernel
 have l7':(Str.ofString "look a ").length=7:=by decide +kernel
 have kf:¬("family" : Str) = "new" := by decide +kernel
 refine qbR (fun σ' H'=>H=H'∧σ'=[some (.int (ws.length:Nat)),some (.ref p),some (.ref pa),some (.ref pb),some (.int c),some (.int 1),none,none,none,none,none,none,none,none]) ?_ fun N hN=>?_
 rotate_left
 · (try walk_at "rd")
   exact hN _ _ ⟨rfl,rfl⟩
 rintro σ' H' ⟨rfl,rfl⟩
 refine qbR (fun σ' H'=>H=H'∧∃v:Option V,σ'=[some (.int (ws.length:Nat)),some (.ref p),some (.ref pa),some (.ref pb),some (.int c),some (.int (2^ws.length:Nat)),v,none,none,none,none,none,none,none]) ?_ fun N hN=>?_
 rotate_left
 · (try walk_at "rd")
   refine ⟨by omega,by omega,?_⟩
   rw [yfg]
   refine qdb (fun i σ H'=>∃v,σ=[some (.int (ws.length:Nat)),some (.ref p),some (.ref pa),some (.ref pb),some (.int c),some (.int (2^i:Nat)),v,none,none,none,none,none,none,none]∧H=H') ⟨none,rfl,rfl⟩ ?_ ?_
   · rintro i σ H' hi ⟨v,rfl,rfl⟩ N1 hN1
     (try walk_at "rd")
     exact ⟨.inl ⟨by decide,by decide⟩,hN1 _ _ ⟨_,by rw [dbl],rfl⟩⟩
   rintro σ H' ⟨v,rfl,rfl⟩
   (try walk_at "rd")
   exact hN _ _ ⟨rfl,v,rfl⟩
 rintro σ' H' ⟨rfl,v,rfl⟩
 refine qbR (fun σ' H'=>H=H'∧∃s:Nat,s<2^ws.length∧σ'=[some (.int (ws.length:Nat)),some (.ref p),some (.ref pa),some (.ref pb),some (.int c),some (.int (2^ws.length:Nat)),v,some (.int (s:Nat)),none,none,none,none,none,none]) ?_ fun N hN=>?_
 rotate_left
 · (try walk_at "rd")
   refine ⟨_,_,rfl,c,61,rfl,rfl,by omega,?_⟩
   (try walk_at "rd")
   refine ⟨by omega,hN _ _ ⟨rfl,qaU c 61%2^ws.length,yee _ pp,?_⟩⟩
   rw [yht]
 rintro σ' H' ⟨rfl,s,slt,rfl⟩
 have a8:s<256:=by omega
 have lT:=Tx.sT_len hw slt
 refine qbR (fun σ' H'=>qar H H'∧σ'=[some (.int (ws.length:Nat)),some (.ref p),some (.ref pa),some (.ref pb),some (.int c),some (.int (2^ws.length:Nat)),v,some (.int (s:Nat)),some (.str (Tx.sT ws s)),none,none,none,none,none]) ?_ fun N hN=>?_
 rotate_left
 · (try walk_at "rd")
   exact ⟨_,_,rfl,p,ws,s,rfl,f1,hw,rfl,slt,fun H1 s0=>hN _ _ ⟨s0,rfl⟩⟩
 rintro σ' H1 ⟨s0,rfl⟩
 have f1:=s0 _ _ f1
 have fA:=s0 _ _ fA
 have fB:=s0 _ _ fB
 refine qbR (fun σ' H'=>H1=H'∧∃way:Nat,way<7∧σ'=[some (.int (ws.length:Nat)),some (.ref p),some (.ref pa),some (.ref pb),some (.int c),some (.int (2^ws.length:Nat)),v,some (.int (s:Nat)),some (.str (Tx.sT ws s)),some (.int (way:Nat)),none,none,none,none]) ?_ fun N hN=>?_
 rotate_left
 · (try walk_at "rd")
   refine ⟨_,_,rfl,c,62,rfl,rfl,by omega,?_⟩
   (try walk_at "rd")
   exact ⟨by decide,hN _ _ ⟨rfl,qaU c 62%7,yee _ (by decide),rfl⟩⟩
 rintro σ' H' ⟨rfl,way,w7,rfl⟩
 have eL:(if (ws.length:Int)>1 then (ws.length:Int) else 1)=((max 1 ws.length:Nat):Int):=by split<;>omega
 have eM:(if (ws.length:Int)-1>1 then (ws.length:Int)-1 else 1)=((max 1 (ws.length-1):Nat):Int):=by split<;>omega
 have nzL:0<(if (ws.length:Int)>1 then (ws.length:Int) else 1):=by split<;>omega
 have nzM:0<(if (ws.length:Int)-1>1 then (ws.length:Int)-1 else 1):=by split<;>omega
 refine qbR (fun σ' H'=>H1=H'∧∃x:Nat,x<max 1 ws.length∧σ'=[some (.int (ws.length:Nat)),some (.ref p),some (.ref pa),some (.ref pb),some (.int c),some (.int (2^ws.length:Nat)),v,some (.int (s:Nat)),some (.str (Tx.sT ws s)),some (.int (way:Nat)),some (.int (x:Nat)),none,none,none]) ?_ fun N hN=>?_
 rotate_left
 · (try walk_at "rd")
   refine ⟨_,_,rfl,c,63,rfl,rfl,by omega,?_⟩
   (try walk_at "rd")
   refine ⟨_,_,⟨rfl,rfl⟩,nzL,hN _ _ ⟨rfl,qaU c 63%max 1 ws.length,yee _ (by omega),?_⟩⟩
   rw [eL,yht]
 rintro σ' H' ⟨rfl,x,hx,rfl⟩
 refine qbR (fun σ' H'=>H1=H'∧∃y:Nat,(1<ws.length→y<ws.length∧y≠x)∧σ'=[some (.int (ws.length:Nat)),some (.ref p),some (.ref pa),some (.ref pb),some (.int c),some (.int (2^ws.length:Nat)),v,some (.int (s:Nat)),some (.str (Tx.sT ws s)),some (.int (way:Nat)),some (.int (x:Nat)),some (.int (y:Nat)),none,none]) ?_ fun N hN=>?_
 rotate_left
 · (try walk_at "rd")
   refine ⟨_,_,rfl,c,64,rfl,rfl,by omega,?_⟩
   (try walk_at "rd")
   refine ⟨_,_,⟨rfl,rfl⟩,nzM,_,_,⟨rfl,rfl⟩,nzL,hN _ _ ⟨rfl,(x+1+qaU c 64%max 1 (ws.length-1))%max 1 ws.length,fun h=>?_,?_⟩⟩
   · have hr:=yee (qaU c 64) (show 0<max 1 (ws.length-1) by omega)
     have:=qul (M:=ws.length) (x:=x) (r:=qaU c 64%max 1 (ws.length-1)) (by omega) (by omega)
     rw [show max 1 ws.length=ws.length by omega]
     exact ⟨this.2,this.1⟩
   rw [eL,eM,qpK]
 rintro σ' H' ⟨rfl,y,hy,rfl⟩
 clear nzL nzM eL eM
 refine qbR (fun σ' H'=>H1=H'∧σ'=[some (.int (ws.length:Nat)),some (.ref p),some (.ref pa),some (.ref pb),some (.int c),some (.int (2^ws.length:Nat)),v,some (.int (s:Nat)),some (.str (Tx.sT ws s)),some (.int (way:Nat)),some (.int (x:Nat)),some (.int (y:Nat)),none,none]) ?_ fun N hN=>?_
 rotate_left
 · (try walk_at "rd")
   refine qjy (fun h0=>⟨by omega,qaq (by simp),fun q1 hq1=>?_⟩) fun h0=>hN _ _ ⟨rfl,rfl⟩
   generalize g1:upd H1 q1 _=G1
   have a1:=qao g1
   have s1:=qah g1 hq1
   have eyn:∀b:Bool,atI [V.str (Str.ofString "no"),V.str (Str.ofString "yes")] (if b=true then 1 else 0)=some (.str (Str.ofString (if b=true then "yes" else "no"))):=fun b=>by cases b<;>exact qaz rfl
   refine ⟨_,_,rfl,pa,A,s,rfl,SqL.of (s1 _ _ fA),rfl,.inr ⟨_,rfl,?_⟩⟩
   refine qaP (SqL.of a1) (eyn _) ⟨qaq (by simp),fun t ht=>q t _ _ _ ((s0.trans s1).trans (qar.new ht)) qaf ⟨"says",["a",Tx.sT ws s],["family", "set"],[.fm A,.nu s], "family",_,qmk hw slt (by decide +kernel) (by decide +kernel) (by decide +kernel) (by decide +kernel) (by decide +kernel),fun m ha hb=>qkH.cons (.fam ha) (qfU (.set slt)),rfl,kf,.says hA slt,fun t ht=>by rw [ht]⟩⟩
 rintro σ' H' ⟨rfl,rfl⟩
 refine qbR (fun σ' H'=>H1=H'∧σ'=[some (.int (ws.length:Nat)),some (.ref p),some (.ref pa),some (.ref pb),some (.int c),some (.int (2^ws.length:Nat)),v,some (.int (s:Nat)),some (.str (Tx.sT ws s)),some (.int (way:Nat)),some (.int (x:Nat)),some (.int (y:Nat)),none,none]) ?_ fun N hN=>?_
 rotate_left
 · (try walk_at "rd")
   refine qjy (fun h1=>⟨by omega,?_⟩) fun h1=>hN _ _ ⟨rfl,rfl⟩
   have as:∀t:Str,t=qfR ws A s→qrs ws A B (Str.ofString "look a " ++ Tx.sT ws s) t:=fun t ht=>⟨"look",["a",Tx.sT ws s],["family", "set"],[.fm A,.nu s], "family",_,qmk hw slt (by decide +kernel) (by decide +kernel) (by decide +kernel) (by decide +kernel) (by decide +kernel),fun m ha hb=>qkH.cons (.fam ha) (qfU (.set slt)),rfl,kf,.look hA slt,fun u hu=>hu.trans ht.symm⟩
   refine ⟨_,_,rfl,pa,A,s,rfl,fA,rfl,a8,fun b hb t1 H2 _ s1 c1=>?_,fun e0 k hk t1 H2 _ s1 c1=>?_,fun e0 e1 t1 p1 ps H2 _ _ _ s1 c1 c2 c3=>?_⟩
   · exact ⟨_,_,rfl,p,t1,ws,A,s,rfl,s1 _ _ f1,hw,rfl,.inl ⟨b,hb,hA.lt b (yby hb),c1⟩,slt,hA.lt,fun H3 s3=>⟨qaq (by simp),fun t ht=>q t _ _ _ (((s0.trans s1).trans s3).trans (qar.new ht)) qaf (as _ rfl)⟩⟩
   · exact ⟨_,_,rfl,p,t1,ws,A,s,rfl,s1 _ _ f1,hw,rfl,.inr (.inl ⟨e0,k,hk,Tx.nms_lt slt (yby hk),c1⟩),slt,hA.lt,fun H3 s3=>⟨qaq (by simp),fun t ht=>q t _ _ _ (((s0.trans s1).trans s3).trans (qar.new ht)) qaf (as _ rfl)⟩⟩
   · exact ⟨_,_,rfl,p,t1,ws,A,s,rfl,s1 _ _ f1,hw,rfl,.inr (.inr ⟨e0,e1,p1,ps,c1,c2,c3⟩),slt,hA.lt,fun H3 s3=>⟨qaq (by simp),fun t ht=>q t _ _ _ (((s0.trans s1).trans s3).trans (qar.new ht)) qaf (as _ rfl)⟩⟩
 rintro σ' H' ⟨rfl,rfl⟩
 refine qbR (fun σ' H'=>H1=H'∧σ'=[some (.int (ws.length:Nat)),some (.ref p),some (.ref pa),some (.ref pb),some (.int c),some (.int (2^ws.length:Nat)),v,some (.int (s:Nat)),some (.str (Tx.sT ws s)),some (.int (way:Nat)),some (.int (x:Nat)),some (.int (y:Nat)),none,none]) ?_ fun N hN=>?_
 rotate_left
 · (try walk_at "rd")
   refine qjy (fun h2=>?_) fun h2=>hN _ _ ⟨rfl,rfl⟩
   refine ⟨_,_,_,rfl,_,pa,pb,_,_,rfl,h8,rfl,SqL.of fA,rfl,SqL.of fB,fun t1 H2 ht1 t2 at1=>?_⟩
   obtain ⟨u,as,eu,hu,has8,has⟩:=qnY (m:=ws.length) hA.lt hB.lt
   rw [eu] at at1
   (try walk_at "rd")
   refine ⟨rfl,qaL (SqT.of at1) (qaz (j:=0) rfl) ⟨qaq (by simp),fun p1 hp1=>?_⟩⟩
   generalize g1:upd H2 p1 _=G1
   have a1:=qao g1
   have s1:=t2.trans (qah g1 hp1)
   refine ⟨t1,_,rfl,SqT.of (qah g1 hp1 _ _ at1),?_,fun p2 hp2=>?_⟩
   · rw [show (1:Int)=((1:Nat):Int) from rfl,HT.sIx_nat,ycb]
     omega
   rw [show (1:Int)=((1:Nat):Int) from rfl,qdY,yhs,ygd]
   generalize g2:upd G1 p2 _=G2
   have a2:=qao g2
   have s2:=s1.trans (qah g2 hp2)
   have a1:=qah g2 hp2 _ _ a1
   refine ⟨p2,rfl,⟨_,SqT.of a2⟩,qkS (fun b => .str (Tx.sT ws b)) a2 (by omega) (fun b hb' H3 s3 R R' r1=>?_) fun H3 p3 s3 hp3=>?_⟩
   · (try walk_at "rd")
     exact ⟨_,_,rfl,p,ws,b,rfl,s3 _ _ (s2 _ _ f1),hw,rfl,has b hb',fun H4 s4=>r1 _ s4⟩
   rw [qbu]
   generalize g3:upd H3 p3 _=G3
   have a3:=qao g3
   have s3':=s3.trans (qah g3 hp3)
   refine ⟨p1,p3,_,_,rfl,rfl,SqL.of (s3' _ _ a1),SqL.of a3,ydc (by simp;omega) (show 100000≤sizeLine by decide),fun p4 hp4=>?_⟩
   have s9:=(s2.trans s3').trans (qar.new (o := .lst (V.str u::sV (as.map (Tx.sT ws)))) hp4)
   refine ⟨_,p4,u::as.map (Tx.sT ws),rfl,rfl,SqL.of qaf,qaD (M:=72) (N:=9) (fun y hy=>?_) (by simp;omega) (by rw [Tx.lit_space];decide) (by decide),?_⟩
   · rcases ybg.mp hy with rfl | hy
     · omega
     obtain ⟨b,hb',rfl⟩:=ybt.mp hy
     exact Tx.sT_len hw (has b hb')
   exact ⟨qaq (by simp),fun t ht=>q t _ _ _ ((s0.trans s9).trans (qar.new ht)) qaf ⟨"held",["a", "b"],["family", "family"],[.fm A,.fm B], "family",_,⟨by decide +kernel,by decide +kernel,by decide +kernel,rfl,by decide +kernel⟩,fun m ha hb=>qkH.cons (.fam ha) (qfU (.fam hb)),rfl,kf,.held hA hB eu hu has8 has,fun t ht=>ht⟩⟩
 rintro σ' H' ⟨rfl,rfl⟩
 refine qbR (fun σ' H'=>H1=H'∧σ'=[some (.int (ws.length:Nat)),some (.ref p),some (.ref pa),some (.ref pb),some (.int c),some (.int (2^ws.length:Nat)),v,some (.int (s:Nat)),some (.str (Tx.sT ws s)),some (.int (way:Nat)),some (.int (x:Nat)),some (.int (y:Nat)),none,none]) ?_ fun N hN=>?_
 rotate_left
 · (try walk_at "rd")
   refine qjy (fun h3=>qjy (fun h31=>?_) fun h31=>hN _ _ ⟨rfl,rfl⟩) fun h3=>hN _ _ ⟨rfl,rfl⟩
   have L1:1<ws.length:=by omega
   obtain ⟨hy1,hne⟩:=hy L1
   have hx1:x<ws.length:=by omega
   have gw:∀k,k<ws.length→ws[k]?=some (ws.getD k Str.empty):=fun k hk=>by rw [yci,ycj hk];rfl
   have gd:∀k,k<ws.length→Tx.Wd (ws.getD k Str.empty):=fun k hk=>hw.wd _ (yck (gw k hk))
   have nm:∀(m:List (Str×List Nat)) (k:Nat),k<ws.length→Thg ws m "name" (ws.getD k Str.empty) (.nu k):=fun m k hk=>by
     have e:ws.idxOf (ws.getD k Str.empty)=k:=by
       rw [yci,ycj hk]
       exact hw.nd.idxOf_getElem k hk
     have:=Thg.name (m:=m) (yck (gw k hk))
     rw [e] at this
     exact this
   obtain ⟨u,as,eu,hu,has8,has⟩:=qn2 ws.length (Fam.sayP A) x y
   refine ⟨_,_,_,_,rfl,ws.length,pa,A,x,y,rfl,h8,rfl,fA,rfl,hx1,rfl,hy1,fun t1 H2 ht1 t2 at1=>?_⟩
   rw [eu] at at1
   (try walk_at "rd")
   refine ⟨rfl,qaL (SqT.of at1) (qaz (j:=0) rfl) ⟨qaq (by simp),fun p1 hp1=>?_⟩⟩
   generalize g1:upd H2 p1 _=G1
   have a1:=qao g1
   have s1:=t2.trans (qah g1 hp1)
   refine ⟨t1,_,rfl,SqT.of (qah g1 hp1 _ _ at1),?_,fun p2 hp2=>?_⟩
   · rw [show (1:Int)=((1:Nat):Int) from rfl,HT.sIx_nat,ycb]
     omega
   rw [show (1:Int)=((1:Nat):Int) from rfl,qdY,yhs,ygd]
   generalize g2:upd G1 p2 _=G2
   have a2:=qao g2
   have s2:=s1.trans (qah g2 hp2)
   have a1:=qah g2 hp2 _ _ a1
   refine ⟨p2,rfl,⟨_,SqT.of a2⟩,qkS (fun b => .str (Tx.sT ws b)) a2 (by omega) (fun b hb' H3 s3 R R' r1=>?_) fun H3 p3 s3 hp3=>?_⟩
   · (try walk_at "rd")
     exact ⟨_,_,rfl,p,ws,b,rfl,s3 _ _ (s2 _ _ f1),hw,rfl,has b hb',fun H4 s4=>r1 _ s4⟩
   rw [qbu]
   generalize g3:upd H3 p3 _=G3
   have a3:=qao g3
   have s3':=s3.trans (qah g3 hp3)
   refine ⟨p1,p3,_,_,rfl,rfl,SqL.of (s3' _ _ a1),SqL.of a3,ydc (by simp;omega) (show 100000≤sizeLine by decide),fun p4 hp4=>?_⟩
   have s9:=(s2.trans s3').trans (qar.new (o := .lst (V.str u::sV (as.map (Tx.sT ws)))) hp4)
   refine ⟨_,p4,u::as.map (Tx.sT ws),rfl,rfl,SqL.of qaf,qaD (M:=72) (N:=9) (fun y hy=>?_) (by simp;omega) (by rw [Tx.lit_space];decide) (by decide),?_⟩
   · rcases ybg.mp hy with rfl | hy
     · omega
     obtain ⟨b,hb',rfl⟩:=ybt.mp hy
     exact Tx.sT_len hw (has b hb')
   (try walk_at "rd")
   refine ⟨rfl,qaP (SqL.of (s9 _ _ f1)) (qb8 (gw x hx1)) (qaP (SqL.of (s9 _ _ f1)) (qb8 (gw y hy1)) ⟨qaq (by simp),fun p5 hp5=>?_⟩)⟩
   refine ⟨_,p5,[Str.ofString "compare a",ws.getD x Str.empty,ws.getD y Str.empty],rfl,rfl,SqL.of qaf,qaD (M:=9) (N:=3) (fun z hz=>?_) (by simp) (by rw [Tx.lit_space];decide) (by decide),⟨qaq (by simp),fun t ht=>q t _ _ _ (((s0.trans s9).trans (qar.new hp5)).trans (qar.new ht)) qaf ⟨"compare",["a",ws.getD x Str.empty,ws.getD y Str.empty],["family", "name", "name"],[.fm A,.nu x,.nu y], "family",_,qqt (gd x hx1) (gd y hy1),fun m ha hb=>qkH.cons (.fam ha) (qkH.cons (nm m x hx1) (qfU (nm m y hy1))),rfl,kf,.compare hA hx1 hy1 (Ne.symm hne) eu hu has8 has,fun t ht=>ht⟩⟩⟩
   rcases ybg.mp hz with rfl | hz
   · decide +kernel
   rcases ybg.mp hz with rfl | hz
   · exact ydc (gd x hx1).2.1 (by decide)
   · rw [yei.mp hz]
     exact ydc (gd y hy1).2.1 (by decide)
 rintro σ' H' ⟨rfl,rfl⟩
 refine qbR (fun σ' H'=>H1=H'∧σ'=[some (.int (ws.length:Nat)),some (.ref p),some (.ref pa),some (.ref pb),some (.int c),some (.int (2^ws.length:Nat)),v,some (.int (s:Nat)),some (.str (Tx.sT ws s)),some (.int (way:Nat)),some (.int (x:Nat)),some (.int (y:Nat)),none,none]) ?_ fun N hN=>?_
 rotate_left
 · (try walk_at "rd")
   refine qjy (fun h4=>⟨rfl,_,_,rfl,ws.length,pa,A,rfl,h8,rfl,fA,fun H2 p1 hp1 t1 a1=>⟨p1,rfl,⟨_,SqL.of a1⟩,?_⟩⟩) fun h4=>hN _ _ ⟨rfl,rfl⟩
   have ln:(Fam.trns ws.length (Fam.sayP A)).length≤9:=by
     unfold Fam.trns
     rw [ycd,ygm]
     omega
   have lo:=qjJ h8 (Fam.sayP A)
   refine qbQ (fs:=Fam.trns ws.length (Fam.sayP A)) (fun _=>true) (fun n => .str (Str.ofString (toString ((n:Nat):Int)))) (SqL.of a1) (by omega) (fun n hm H5 s5 R R' r1 r2=>?_) fun H5 p5 s5 hp5=>?_
   · (try walk_at "rd")
     have:=lo n hm
     exact ⟨by rw [yhq];exact ybl (yhr n) (by omega),r1 rfl _ (qar.refl _)⟩
   rw [ygf.mpr fun _ _=>rfl,qbu]
   refine ⟨_,p5,_,rfl,rfl,SqL.of qaf,qaD (M:=3) (N:=9) (fun y hy=>?_) (by rw [ycd];exact ln) (by rw [Tx.lit_space];decide) (by decide),⟨qaq (by simp),fun t ht=>q t _ _ _ ((((s0.trans t1).trans s5).trans (qar.new hp5)).trans (qar.new ht)) qaf ⟨"turns",["a"],["family"],[.fm A], "family",_,⟨by decide +kernel,by decide +kernel,by decide +kernel,rfl,by decide +kernel⟩,fun m ha hb=>qfU (.fam ha),rfl,kf,.turns hA,fun u hu=>hu⟩⟩⟩
   obtain ⟨n,hm,rfl⟩:=ybt.mp hy
   exact qgZ n (lo n hm)
 rintro σ' H' ⟨rfl,rfl⟩
 refine qbR (fun σ' H'=>H1=H'∧σ'=[some (.int (ws.length:Nat)),some (.ref p),some (.ref pa),some (.ref pb),some (.int c),some (.int (2^ws.length:Nat)),v,some (.int (s:Nat)),some (.str (Tx.sT ws s)),some (.int (way:Nat)),some (.int (x:Nat)),some (.int (y:Nat)),none,none]) ?_ fun N hN=>?_
 rotate_left
 · (try walk_at "rd")
   refine qjy (fun h5'=>?_) fun h5'=>hN _ _ ⟨rfl,rfl⟩
   exact ⟨_,_,rfl,ws.length,pa,A,rfl,h8,rfl,fA,fun t1 H2 t2 R1=>⟨_,_,rfl,p,t1,ws,_,H1,rfl,t2 _ _ f1,hw,rfl,R1,fun z H3 hz s3=>⟨qaq (by simp),fun t ht=>q t _ _ _ (((s0.trans t2).trans s3).trans (qar.new ht)) qaf ⟨"ranks",["a"],["family"],[.fm A], "family",_,⟨by decide +kernel,by decide +kernel,by decide +kernel,rfl,by decide +kernel⟩,fun m ha hb=>qfU (.fam ha),rfl,kf,.ranks hA,fun u hu=>qqR hz hu⟩⟩⟩⟩
 rintro σ' H' ⟨rfl,rfl⟩
 (try walk_at "rd")
 exact ⟨_,_,rfl,ws.length,pa,A,rfl,h5,rfl,fA,lA,hA.rise,hA.lt,fun t1 v H2 t2 R1 V1=>⟨_,_,rfl,p,t1,ws,v,rfl,t2 _ _ f1,hw,rfl,V1,qm0 R1,fun H3 s3=>⟨qaq (by simp),fun t ht=>q t _ _ _ (((s0.trans t2).trans s3).trans (qar.new ht)) qaf ⟨"weights",["a"],["family"],[.fm A], "family",_,⟨by decide +kernel,by decide +kernel,by decide +kernel,rfl,by decide +kernel⟩,fun m ha hb=>qfU (.fam ha),rfl,kf,.weights hA h5 lA,fun u hu=>by obtain ⟨v',r',e'⟩:=hu;rw [e',qq2 r' R1]⟩⟩⟩⟩
abbrev qgX:Stmt:=top 96
def qpu:qam ["_law_script", "_law_many", "_law_words_here", "_law_desk", "_law_one", "_law_other", "_law_cell_here", "_law_row", "_law_owed", "_law_again", "_law_found"] ["_law_script"] (qag qgX):=fsc
def qpU {x:V} {xs:List V} {lo hi:Option Int} (h:x∈qiS xs lo hi):x∈xs:=List.mem_of_mem_drop (yhc h)
def qqW (xs:List V) (lo hi:Option Int):(qiS xs lo hi).length≤xs.length:=by
 show (List.take _ (List.drop _ xs)).length≤_
 rw [yfb,ydg]
 omega
def qm4 {ws:List Str} {A:List Nat} {z n:Str} (hw:Tx.Wds ws) (hA:Fml ws.length A) (hz:z=pre ["let",n] Str.empty) (hn:32∉Tx.sg n) (hs:z.length≤100):Prt (z++Tx.fT ws A) "let" [n,Tx.fT ws A] ["new", "text"]:=by
 have e:z++Tx.fT ws A=pre ["let",n] (Tx.fT ws A):=by rw [qit,hz]
 rw [e]
 refine qpR hn ?_
 rw [←e,Str.length_append]
 have:=Tx.fT_len hw hA.lt (by have:=hA.few;omega)
 omega
def qk5 {K:W.Frag} {pk a:Addr} {H H':Hp} {xs:List V} {kvs:List (Key×V)} (s:SmB pk H H') (c:H pk=some (.dK kvs)) (h:SqL K H a xs):SqL K H' a xs:=by
 rcases h with (e | ⟨o,e⟩) | h
 · exact .inl (.inl (s _ _ e fun z=>by rw [z,c] at e;cases e))
 · exact .inl (.inr ⟨o,s _ _ e fun z=>by rw [z,c] at e;cases e⟩)
 · exact .inr h
def qm7 (K:W.Frag):Sp:=sp1 fun x H Q=>∃(a:Addr) (ns:List Int),x = .ref a∧SqL K H a (ns.map V.int)∧ns.length≤63∧∀H',Q (.bl true) H'
def qsT {f:Addr} {fd:FuncData} (F:Fun K "law" "law" qgX f fd) (T:Txt mg) {cD aW:Addr} (Z:Xt P w K mg cD aW) {f_21:Addr} {fd_21:FuncData} (C_21:Cal P w K mg base "_law_words" 2 ["_law_cell_here", "_law_count"] (qhQ K) f_21 fd_21) {f_09:Addr} {fd_09:FuncData} (C_09:qp5 P w K mg base cD 3 ["self", "text"] (qoO cD) f_09 fd_09) {f_15:Addr} {fd_15:FuncData} (C_15:Cal P w K mg base "_law_family" 2 ["_law_script", "_law_start", "_law_many", "_law_most"] (qj2 K) f_15 fd_15) {f_49:Addr} {fd_49:FuncData} (C_49:qgE P w K mg base cD "say" 11 ["self", "row"] (qti cD) f_49 fd_49) {f_40:Addr} {fd_40:FuncData} (C_40:Cal P w K mg base "_law_mix" 1 ["_law_cell_here", "_law_k"] qm1 f_40 fd_40) {f_29:Addr} {fd_29:FuncData} (C_29:Cal P w K mg base "_law_cell" 1 ["_law_script", "_law_k"] (qma K) f_29 fd_29) {f_28:Addr} {fd_28:FuncData} (C_28:Cal P w K mg base "_law_asked" 10 ["_law_many", "_law_words_here", "_law_one", "_law_other", "_law_cell_here"] (qjB K) f_28 fd_28) {f_31:Addr} {fd_31:FuncData} (C_31:Cal P w K mg base "_law_text" 2 ["_law_words_here", "_law_family_here"] (ql0 K) f_31 fd_31):qaQ P w K mg base CX0 12 f fd ["_law_script"] (qm7 K):=by
 have sc:=qpu
 refine F.ok qpu (fun vs H Q E h=>by obtain ⟨_,rfl,_⟩:=h;rfl) (fun cdv A outer s H vs Q E hr h=>?_)
 obtain ⟨x0,rfl,h⟩:=h
 refine ⟨_,(qac (qat (i:=1) sc.nd rfl (Or.inl rfl) (qap qaW (pec C_40 hr (qaa (pec C_29 hr (qaa (pv 0) (qaa qae qab))) (qaa qae qab))) qae))
   (qac (qat (i:=2) sc.nd rfl (Or.inl rfl) (pec C_21 hr (qaa (pec C_29 hr (qaa (pv 0) (qaa qae qab))) (qaa (pv 1) qab))))
   (qac (qat (i:=3) sc.nd rfl (Or.inl rfl) (qnq C_09 hr (by decide) (by rfl) Z.gDesk (qaa (qbf yhg yhh yhi (qaM (K:=K) rfl) qaj (qaa (pv 2) qab)) qab)))
   (qac (qat (i:=4) sc.nd rfl (Or.inl rfl) (pec C_15 hr (qaa (pv 0) (qaa qae (qaa (pv 1) (qaa qae qab))))))
   (qac (qat (i:=5) sc.nd rfl (Or.inl rfl) (pec C_15 hr (qaa (pv 0) (qaa qae (qaa (pv 1) (qaa qae qab))))))
   (qac (qb3 (qbV (pv 3) Z.cl C_49 hr (by decide) (qaa (qap qaK qaj (pec C_31 hr (qaa (pv 2) (qaa (pv 4) qab)))) qab)))
   (qac (qb3 (qbV (pv 3) Z.cl C_49 hr (by decide) (qaa (qap qaK qaj (pec C_31 hr (qaa (pv 2) (qaa (pv 5) qab)))) qab)))
   (qac (qaY PassesOwn.never rfl (qaJ (qap (qbe (K:=K) rfl) (qaH (qaa (pec C_29 hr (qaa (pv 0) (qaa qae qab))) (qaa (pec C_29 hr (qaa (pv 0) (qaa qae qab))) (qaa (pec C_29 hr (qaa (pv 0) (qaa qae qab))) qab)))) (qbs (qto (K:=K) rfl) (pv 0) (qbK qae) (qbK qae)))) (qan (i:=6) sc.nd rfl (Or.inl rfl)) (qac (qkM (pec C_28 hr (qaa (pv 1) (qaa (pv 2) (qaa (qaT qcF (by rfl) T.n_list PyProof.Rows.boot_list (qaa (pv 4) qab)) (qaa (qaT qcF (by rfl) T.n_list PyProof.Rows.boot_list (qaa (pv 5) qab)) (qaa (pv 6) qab)))))) (qgd (n:=2) rfl (qbd (qan (i:=7) sc.nd rfl (Or.inl rfl)) (qbd (qan (i:=8) sc.nd rfl (Or.inl rfl)) qel))))
   (qad (qaY PassesOwn.never rfl (qaI (by rfl) T.n_range (qaa qae qab)) (qan (i:=9) sc.nd rfl (Or.inl rfl)) (qac (qat (i:=10) sc.nd rfl (Or.inl rfl) (qbV (pv 3) Z.cl C_49 hr (by decide) (qaa (pv 7) qab)))
   (qad (qaB (PW.pt (qll (qbD (qbg (qav qbp (by rfl) T.n_isinstance PyProof.Rows.boot_isinstance (qaa (pv 10) (qaa (qed (v := .ty "str") (by rfl) T.n_str PyProof.Rows.boot_str rfl) qab))))) (qh4 (qal (qjF (K:=K) rfl hr.units0) (pv 10) (pv 8) (qas _))))) (qad (qai qkr)) qak)))))))
   (qad (qai (qjz (qfA (qax (K:=K) rfl hr.units0) (qbV (pv 3) Z.cl C_49 hr (by decide) (qaa qaj qab)) (pec C_31 hr (qaa (pv 2) (qaa (pv 4) qab))) (qas _)) (qjE (qfA (qax (K:=K) rfl hr.units0) (qbV (pv 3) Z.cl C_49 hr (by decide) (qaa qaj qab)) (pec C_31 hr (qaa (pv 2) (qaa (pv 5) qab))) (qas _)))))))))))))),?_⟩
 refine rdg (σ':=[some x0,none,none,none,none,none,none,none,none,none,none]) rfl ?_
 obtain ⟨a,ns,rfl,hS,hlen,q⟩:=h
 walk_at "rd"
 refine ⟨_,_,rfl,a,ns,0,rfl,hS,hlen,rfl,by omega,fun c0=>⟨_,_,rfl,c0,9,rfl,rfl,by omega,?_⟩⟩
 (try walk_at "rd")
 refine ⟨by decide,?_⟩
 obtain ⟨m,hm,em⟩:∃m:Nat,m≤5∧((qaU c0 9:Nat):Int)%6=(m:Nat):=⟨qaU c0 9%6,by omega,rfl⟩
 rw [em]
 refine ⟨_,_,rfl,a,ns,1,rfl,hS,hlen,rfl,by omega,fun c1=>⟨_,_,rfl,c1,m,rfl,rfl,by omega,fun p ws H1 hp s1 f1 hw hl=>?_⟩⟩
 have hS:=s1.seq hS
 subst hl
 refine ⟨rfl,_,p,ws,rfl,rfl,SqL.of f1,qaD (M:=8) (N:=8) (fun y hy=>(hw.wd y hy).2.1) hw.few (by rw [Tx.lit_space];decide) (by decide),fun d dx hd hdx hne=>⟨_,_,rfl,d,dx,ws,rfl,qaf,rfl,hw,fun pk H2 hpk D2 s2=>⟨rfl,?_⟩⟩⟩
 have t2:qar H1 H2:=fun b o e=>s2 b o (by rw [qay (qaZ e hd),qay (qaZ e hdx)];exact e) (qaZ e hd)
 have f1:=t2 _ _ f1
 have hS:=t2.seq hS
 clear s1 s2 t2 hpk hd hdx hne
 refine ⟨_,_,_,_,rfl,a,ns,2,ws.length,8,rfl,hS,hlen,rfl,by omega,rfl,by omega,rfl,by omega,fun pA A H3 hp3 s3 fA hr3 hb3 h703=>?_⟩
 have hA:Fml ws.length A:=⟨hr3,hb3,h703⟩
 have f1:=s3 _ _ f1
 have hS:=s3.seq hS
 have D3:=D2.same s3
 refine ⟨_,_,_,_,rfl,a,ns,14,ws.length,8,rfl,hS,hlen,rfl,by omega,rfl,by omega,rfl,by omega,fun pB B H4 hp4 s4 fB hr4 hb4 h704=>?_⟩
 have hB:Fml ws.length B:=⟨hr4,hb4,h704⟩
 have f1:=s4 _ _ f1
 have fA:=s4 _ _ fA
 have hS:=s4.seq hS
 have D4:=D3.same s4
 clear D2 D3 s3 s4 hp3 hp4
 (try walk_at "rd")
 have h8:=hw.few
 have fAl:=Tx.fT_len hw hA.lt (by have:=hA.few;omega)
 have fBl:=Tx.fT_len hw hB.lt (by have:=hB.few;omega)
 have zz:100000≤sizeLine:=by decide
 have l6a:(Str.ofString "let a ").length=6:=by decide +kernel
 have l6b:(Str.ofString "let b ").length=6:=by decide +kernel
 have wa:Tx.Wd "a" := ⟨by decide +kernel,by decide +kernel,by decide +kernel⟩
 have wb:Tx.Wd "b" := ⟨by decide +kernel,by decide +kernel,by decide +kernel⟩
 obtain ⟨kv4,c4,_⟩:=D4.dc
 have npk:p≠pk:=fun e=>by rw [e,c4] at f1;cases f1
 have nAk:pA≠pk:=fun e=>by rw [e,c4] at fA;cases fA
 have nBk:pB≠pk:=fun e=>by rw [e,c4] at fB;cases fB
 obtain ⟨dx4,pw4,o4,_⟩:=D4.ob
 refine ⟨dx4,_,o4,qcH _ _ (by decide +kernel) (by decide +kernel),_,_,rfl,p,pA,ws,A,rfl,f1,hw,rfl,fA,hA.lt,hA.few,fun H5 s5=>⟨_,rfl,by omega,_,_,rfl,d,pk,ws,[],_, "let",["a",Tx.fT ws A],["new", "text"],[.nm "a",.fm A],rfl,D4.same s5,rfl,qm4 hw hA (by decide +kernel) (by decide +kernel) (by decide +kernel),qkH.cons (.new wa) (qfU (.text hA)),.inl ⟨"a",[.fm A],A,rfl,rfl,.let,hA,.inr (by decide),fun H6 s6 D6=>?_⟩⟩⟩
 have f1:=s6 _ _ (s5 _ _ f1) npk
 have fA:=s6 _ _ (s5 _ _ fA) nAk
 have fB:=s6 _ _ (s5 _ _ fB) nBk
 have hS:=qk5 s6 (s5 _ _ c4) (s5.seq hS)
 clear D4 s5 s6 c4 o4
 obtain ⟨kv6,c6,_⟩:=D6.dc
 obtain ⟨dx6,pw6,o6,_⟩:=D6.ob
 refine ⟨dx6,_,o6,qcH _ _ (by decide +kernel) (by decide +kernel),_,_,rfl,p,pB,ws,B,rfl,f1,hw,rfl,fB,hB.lt,hB.few,fun H7 s7=>⟨_,rfl,by omega,_,_,rfl,d,pk,ws,_,_, "let",["b",Tx.fT ws B],["new", "text"],[.nm "b",.fm B],rfl,D6.same s7,rfl,qm4 hw hB (by decide +kernel) (by decide +kernel) (by decide +kernel),qkH.cons (.new wb) (qfU (.text hB)),.inl ⟨"b",[.fm B],B,rfl,rfl,.let,hB,.inr (by rw [qcn];split<;>simp),fun H8 s8 D8=>?_⟩⟩⟩
 have f1:=s8 _ _ (s7 _ _ f1) npk
 have fA:=s8 _ _ (s7 _ _ fA) nAk
 have fB:=s8 _ _ (s7 _ _ fB) nBk
 have hS:=qk5 s8 (s7 _ _ c6) (s7.seq hS)
 clear D6 s7 s8 c6 o6
 have l_a:(qkm (qkm [] "a" A) "b" B).lookup ("a" : Str)=some A:=by rw [qbo,if_neg (by decide +kernel),qbo,if_pos rfl]
 have l_b:(qkm (qkm [] "a" A) "b" B).lookup ("b" : Str)=some B:=by rw [qbo,if_pos rfl]
 generalize qkm (qkm [] "a" A) "b" B=M at D8 l_a l_b
 (try walk_at "rd")
 refine ⟨_,_,rfl,a,ns,30,rfl,hS,hlen,rfl,by omega,fun c30=>⟨_,_,rfl,a,ns,31,rfl,hS,hlen,rfl,by omega,fun c31=>⟨_,_,rfl,a,ns,32,rfl,hS,hlen,rfl,by omega,fun c32=>⟨qaq (by simp),fun q1 hq1=>?_⟩⟩⟩⟩
 generalize g1:upd H8 q1 _=G1
 have b1:=qao g1
 have w1:=qah g1 hq1
 refine ⟨a,_,rfl,w1.seq hS,fun q2 hq2=>?_⟩
 generalize g2:upd G1 q2 _=G2
 have b2:=qao g2
 have w2:=w1.trans (qah g2 hq2)
 have b1:=qah g2 hq2 _ _ b1
 have lc:=qqW (ns.map V.int) (some 33) (some 42)
 rw [ycd] at lc
 refine ⟨q1,q2,_,_,rfl,rfl,SqL.of b1,SqL.of b2,qaq (by simp;omega),fun q3 hq3=>⟨q3,rfl,⟨_,SqL.of qaf⟩,?_⟩⟩
 generalize g3:upd G2 q3 _=G3
 have b3:=qao g3
 have w3:=w2.trans (qah g3 hq3)
 have f1:=w3 _ _ f1
 have fA:=w3 _ _ fA
 have fB:=w3 _ _ fB
 have D3:=D8.same w3
 have hall:∀x∈[V.int c30,V.int c31,V.int c32]++qiS (ns.map V.int) (some 33) (some 42),∃z,x=V.int z:=fun x hx=>by
   rcases yaw.mp hx with y | y
   · simp only [ybg,ydz,or_false] at y
     rcases y with rfl | rfl | rfl<;>exact ⟨_,rfl⟩
   · obtain ⟨z,_,rfl⟩:=ybt.mp (qpU y)
     exact ⟨z,rfl⟩
 generalize [V.int c30,V.int c31,V.int c32]++qiS (ns.map V.int) (some 33) (some 42)=zs at b3 hall
 clear D8 w1 w2 w3 b1 b2 g1 g2 g3 hS
 refine qjP (xs:=zs) (fun i σ H'=>∃(v6 v7 v8 v9 v10:Option V),σ=[some (.ref a),some (.int (ws.length:Nat)),some (.ref p),some (.ref d),some (.ref pA),some (.ref pB),v6,v7,v8,v9,v10]∧qar G3 H') ⟨none,none,none,none,none,rfl,qar.refl _⟩ (fun i σ H' _ ⟨_,_,_,_,_,_,e⟩=>SqL.of (e _ _ b3)) ?_ ?_
 · rintro i x σ H4 hx ⟨v6,v7,v8,v9,v10,rfl,s4⟩ N hN
   obtain ⟨z,rfl⟩:=hall x (yck hx)
   (try walk_at "rd")
   refine ⟨_,.inl (SqL.of (s4 _ _ fA)),fun r1 hr1=>?_⟩
   generalize g1:upd H4 r1 _=G1
   have a1:=qao g1
   have t1:=s4.trans (qah g1 hr1)
   refine ⟨_,.inl (SqL.of (t1 _ _ fB)),fun r2 hr2=>?_⟩
   generalize g2:upd G1 r2 _=G2
   have a2:=qao g2
   have t2:=t1.trans (qah g2 hr2)
   have a1:=qah g2 hr2 _ _ a1
   refine ⟨_,_,_,_,_,rfl,p,r1,r2,ws,A,B,z,rfl,rfl,rfl,rfl,rfl,hm,t2 _ _ f1,hw,a1,hA,a2,hB,fun t row owed H6 s6 at6 hQ=>?_⟩
   obtain ⟨deed,r,ks,ths,k0,T,hP,hT,e0,nk,hK,hone⟩:=hQ
   refine ⟨t,rfl,_,SqT.of at6,rfl,_,_,rfl,_,_,rfl,rfl,?_⟩
   have t6:=t2.trans s6
   (try walk_at "rd")
   refine ⟨by decide,by decide,?_⟩
   rw [show Int.toNat 2=2 from rfl]
   refine qdb (fun j σ H'=>∃(v9 v10:Option V),σ=[some (.ref a),some (.int (ws.length:Nat)),some (.ref p),some (.ref d),some (.ref pA),some (.ref pB),some (.int z),some (.str row),some (.str owed),v9,v10]∧qar G3 H') ⟨_,_,rfl,t6⟩ ?_ ?_
   · rintro j σ H7 hj ⟨v9,v10,rfl,s7⟩ N' hN'
     have D7:=D3.same s7
     obtain ⟨dx7,pw7,o7,_⟩:=D7.ob
     (try walk_at "rd")
     refine ⟨dx7,_,o7,qcH _ _ (by decide +kernel) (by decide +kernel),_,_,rfl,d,pk,ws,M,row,deed,r,ks,ths,rfl,D7,rfl,hP,hT M l_a l_b,.inr ⟨k0,T,e0,nk,hK,fun t8 H8 ht s8=>?_⟩⟩
     obtain rfl:=hone _ ht
     (try walk_at "rd")
     refine ⟨_, "str",⟨rfl,rfl⟩, "str",rfl,by decide,?_⟩
     rw [if_neg (by decide)]
     refine ⟨false,by simp,qc4 (hN' _ _ ⟨_,_,rfl,s7.trans s8⟩)⟩
   · rintro σ H7 ⟨v9,v10,rfl,s7⟩
     exact hN _ _ ⟨_,_,_,_,_,rfl,s7⟩
 rintro σ H4 ⟨v6,v7,v8,v9,v10,rfl,s4⟩
 have D_a:=D3.same s4
 (try walk_at "rd")
 obtain ⟨dx_a,pw_a,o_a,_⟩:=D_a.ob
 refine ⟨dx_a,_,o_a,qcH _ _ (by decide +kernel) (by decide +kernel),_,_,rfl,d,pk,ws,M,_, "show",["a"],["family"],[.fm A],rfl,D_a,rfl,(show Prt (Str.ofString "show a") "show" ["a"] ["family"] from ⟨by decide +kernel,by decide +kernel,by decide +kernel,rfl,by decide +kernel⟩),qfU (.fam l_a),.inr ⟨"family",_,rfl,by decide +kernel,.show hA,fun t_a S_a ht_a s_a=>?_⟩⟩
 subst ht_a
 refine ⟨_,_,rfl,p,pA,ws,A,rfl,s_a _ _ (s4 _ _ f1),hw,rfl,s_a _ _ (s4 _ _ fA),hA.lt,hA.few,fun H5 s5=>⟨_,.inl ⟨rfl,rfl⟩,true,congrArg V.bl (decide_eq_true rfl),qez ?_⟩⟩
 have s5:=(s4.trans s_a).trans s5
 have D_b:=D3.same s5
 obtain ⟨dx_b,pw_b,o_b,_⟩:=D_b.ob
 refine ⟨dx_b,_,o_b,qcH _ _ (by decide +kernel) (by decide +kernel),_,_,rfl,d,pk,ws,M,_, "show",["b"],["family"],[.fm B],rfl,D_b,rfl,(show Prt (Str.ofString "show b") "show" ["b"] ["family"] from ⟨by decide +kernel,by decide +kernel,by decide +kernel,rfl,by decide +kernel⟩),qfU (.fam l_b),.inr ⟨"family",_,rfl,by decide +kernel,.show hB,fun t_b S_b ht_b s_b=>?_⟩⟩
 subst ht_b
 refine ⟨_,_,rfl,p,pB,ws,B,rfl,s_b _ _ (s5 _ _ f1),hw,rfl,s_b _ _ (s5 _ _ fB),hB.lt,hB.few,fun H6 s6=>⟨_,.inl ⟨rfl,rfl⟩,?_⟩⟩
 rw [decide_eq_true rfl]
 exact q _
end
structure Dfn (K:W.Frag) (x:Str) (s:Stmt) (f:Addr) (fd:FuncData):Prop where
 a:W.nsIn K mainGlobals x=some (some (.ref f))
 F:Fun K x x s f fd
structure Dfm (K:W.Frag) (C:Addr) (m q:Str) (s:Stmt) (f:Addr) (fd:FuncData):Prop where
 a:W.findIn K (.ref C) m=some (some (.ref f))
 i:W.isFn K (.ref f)=true
 F:Fun K m q s f fd
def dn {K:W.Frag} {x:Str} {st:Stmt} {f:Addr} {oc:Value} {od an:Option Addr} {osl:Array (Option Value)} {kV doc pm cdv ct:Value} (a:W.nsIn K mainGlobals x=some (some (.ref f))) (l:K.lookup f=some ⟨oc,od,.func (W.fnOf x x (qb0 st) (qbI st) (qag st) .none kV doc pm an cdv ct),osl⟩) (c:W.codeIn K cdv x=true) (k:W.keepIn K (.ref f)=true):Dfn K x st f (W.fnOf x x (qb0 st) (qbI st) (qag st) .none kV doc pm an cdv ct):=⟨a,qlW l c k⟩
def dm {K:W.Frag} {C:Addr} {m q:Str} {st:Stmt} {f:Addr} {oc:Value} {od an:Option Addr} {osl:Array (Option Value)} {kV doc pm cdv ct:Value} (a:W.findIn K (.ref C) m=some (some (.ref f))) (i:W.isFn K (.ref f)=true) (l:K.lookup f=some ⟨oc,od,.func (W.fnOf m q (qb0 st) (qbI st) (qag st) .none kV doc pm an cdv ct),osl⟩) (c:W.codeIn K cdv q=true) (k:W.keepIn K (.ref f)=true):Dfm K C m q st f (W.fnOf m q (qb0 st) (qbI st) (qag st) .none kV doc pm an cdv ct):=⟨a,i,qlW l c k⟩
def all_mk {l:W.OpenLaw} {w:World} {K:W.Frag} {h:Heap} {mg:Str→Option Value} {fa:Addr} (X:K.In h) (G:h.Ns mainGlobals mg) (hfa:mg "law" = some (.ref fa))
   {cD aW:Addr}
   {f1 f2 f3 f4 f5 f6 f7 f8 f9 f10 f11 f12 f13 f14 f15 f16 f17 f18 f19 f20 f21 f22 f23 f24 f25 f26 f27 f28 f29 f30 f31 f32 f33 f34 f35 f36 f37 f38 f39 f40 f41 f42 f43 f44 f45 f46 f47 f48 f49 f50 f51 f52 f53 f54 f55 f56 f57 f58 f59 f60 f61 f62 f63 f64 f65 f66 f67 f68 f69 f70 f71 f72:Addr} {d1 d2 d3 d4 d5 d6 d7 d8 d9 d10 d11 d12 d13 d14 d15 d16 d17 d18 d19 d20 d21 d22 d23 d24 d25 d26 d27 d28 d29 d30 d31 d32 d33 d34 d35 d36 d37 d38 d39 d40 d41 d42 d43 d44 d45 d46 d47 d48 d49 d50 d51 d52 d53 d54 d55 d56 d57 d58 d59 d60 d61 d62 d63 d64 d65 d66 d67 d68 d69 d70 d71 d72:FuncData}
   (D1:Dfn K "is_whole" qer f1 d1)
   (D2:Dfn K "_law_cell" qdu f2 d2)
   (D3:Dfn K "_law_mix" qeg f3 d3)
   (D4:Dfn K "_law_size" qdv f4 d4)
   (D5:Dfn K "_law_family" qcg f5 d5)
   (D6:Dfn K "_law_words" qcU f6 d6)
   (D7:Dfn K "_law_set_text" qbP f7 d7)
   (D8:Dfn K "_law_text" qdn f8 d8)
   (D9:Dfn K "is_set" qhg f9 d9)
   (D10:Dfn K "is_family" qdq f10 d10)
   (D11:Dfn K "names_in" qec f11 d11)
   (D12:Dfn K "set_of" qhj f12 d12)
   (D13:Dfn K "parted" qhh f13 d13)
   (D14:Dfn K "is_word" qe2 f14 d14)
   (D15:Dfn K "read_names" qcz f15 d15)
   (D16:Dfn K "read_name" qdl f16 d16)
   (D17:Dfn K "show_set" qem f17 d17)
   (D18:Dfn K "show_family" qck f18 d18)
   (D19:Dfn K "read_set" qej f19 d19)
   (D20:Dfn K "read_family" qcm f20 d20)
   (D21:Dfn K "holds" qi2 f21 d21)
   (D22:Dfn K "meets" qiy f22 d22)
   (D23:Dfn K "rest" qmP f23 d23)
   (D24:Dfn K "says" qms f24 d24)
   (D25:Dfn K "least" qiL f25 d25)
   (D26:Dfn K "rests" qiM f26 d26)
   (D27:Dfn K "first_missed" qb1 f27 d27)
   (D28:Dfn K "hits" qmI f28 d28)
   (D29:Dfn K "always_in" qdA f29 d29)
   (D30:Dfn K "always_out" qcw f30 d30)
   (D31:Dfn K "either" qgw f31 d31)
   (D32:Dfn K "both" qlr f32 d32)
   (D33:Dfn K "first_met_by_alone" qa6 f33 d33)
   (D34:Dfn K "looked" qg2 f34 d34)
   (D35:Dfn K "first_left_out" qbC f35 d35)
   (D36:Dfn K "held" qkZ f36 d36)
   (D37:Dfn K "table_of" qea f37 d37)
   (D38:Dfn K "noes_by" qe1 f38 d38)
   (D39:Dfn K "first_parting" qbG f39 d39)
   (D40:Dfn K "compared_in" qcf f40 d40)
   (D41:Dfn K "compared" qeu f41 d41)
   (D42:Dfn K "turned_by" qdj f42 d42)
   (D43:Dfn K "turns" qiC f43 d43)
   (D44:Dfn K "show_numbers" qbY f44 d44)
   (D45:Dfn K "show_word_and_sets" qba f45 d45)
   (D46:Dfn K "show_looked" qcl f46 d46)
   (D47:Dfn K "ranked" qgp f47 d47)
   (D48:Dfn K "ranks" qiW f48 d48)
   (D49:Dfn K "show_alike" qcM f49 d49)
   (D50:Dfn K "show_ranks" qcC f50 d50)
   (D51:Dfn K "weight_of" qds f51 d51)
   (D52:Dfn K "traded" qgv f52 d52)
   (D53:Dfn K "bar_between" qci f53 d53)
   (D54:Dfn K "falling_lists" qbi f54 d54)
   (D55:Dfn K "given_out" qdi f55 d55)
   (D56:Dfn K "weighed" qfQ f56 d56)
   (D57:Dfn K "by_weights" qcS f57 d57)
   (D58:Dfn K "show_weights" qbZ f58 d58)
   (D59:Dfn K "compared_unlike" qbq f59 d59)
   (D60:Dfn K "new_name" qeo f60 d60)
   (D61:Dfn K "parts_of" qd9 f61 d61)
   (D62:Dfm K cD "__init__" "Desk.__init__" qbU f62 d62)
   (D63:Dfm K cD "family_by" "Desk.family_by" qbB f63 d63)
   (D64:Dfm K cD "look_for_room" "Desk.look_for_room" qa8 f64 d64)
   (D65:Dfm K cD "thing_of" "Desk.thing_of" qbF f65 d65)
   (D66:Dfn K "made" qmO f66 d66)
   (D67:Dfn K "answered" qev f67 d67)
   (D68:Dfm K cD "say" "Desk.say" qeb f68 d68)
   (D69:Dfn K "_law_look" qdw f69 d69)
   (D70:Dfn K "_law_ranks" qcP f70 d70)
   (D71:Dfn K "_law_weights" qb2 f71 d71)
   (D72:Dfn K "_law_asked" qcE f72 d72)
   {f_law:Addr} {od_law an_law:Option Addr} {sl_law:Array (Option Value)} {oc_law kV_law dc_law pm_law cd_law ct_law:Value} (a_law:W.nsIn K mainGlobals "law" = some (some (.ref f_law))) (l_law:K.lookup f_law=some ⟨oc_law,od_law,.func (W.fnOf "law" "law" (qb0 qgX) (qbI qgX) (qag qgX) .none kV_law dc_law pm_law an_law cd_law ct_law),sl_law⟩) (c_law:W.codeIn K cd_law "law" = true) (k_law:W.keepIn K (.ref f_law)=true)
   (z_isinstance:W.nsIn K mainGlobals "isinstance" = some none)
   (z_int:W.nsIn K mainGlobals "int" = some none)
   (z_bool:W.nsIn K mainGlobals "bool" = some none)
   (z_len:W.nsIn K mainGlobals "len" = some none)
   (z_range:W.nsIn K mainGlobals "range" = some none)
   (z_sorted:W.nsIn K mainGlobals "sorted" = some none)
   (z_set:W.nsIn K mainGlobals "set" = some none)
   (z_list:W.nsIn K mainGlobals "list" = some none)
   (z_str:W.nsIn K mainGlobals "str" = some none)
   (z_all:W.nsIn K mainGlobals "all" = some none)
   (z_reversed:W.nsIn K mainGlobals "reversed" = some none)
   (z_enumerate:W.nsIn K mainGlobals "enumerate" = some none)
   (z_sum:W.nsIn K mainGlobals "sum" = some none)
   (z_max:W.nsIn K mainGlobals "max" = some none)
   (z_min:W.nsIn K mainGlobals "min" = some none)
   (z_zip:W.nsIn K mainGlobals "zip" = some none)
   {t_MOST_SETS:Tok} (v_MOST_SETS:W.nsIn K mainGlobals "MOST_SETS" = some (some (.int 70 t_MOST_SETS)))
   {t_MOST_LETTERS:Tok} (v_MOST_LETTERS:W.nsIn K mainGlobals "MOST_LETTERS" = some (some (.int 8 t_MOST_LETTERS)))
   {t_MOST_NAMES:Tok} (v_MOST_NAMES:W.nsIn K mainGlobals "MOST_NAMES" = some (some (.int 8 t_MOST_NAMES)))
   {t_NO_SETS:Tok} (v_NO_SETS:W.nsIn K mainGlobals "NO_SETS" = some (some (.str "none" t_NO_SETS)))
   {t_NO_NAMES:Tok} (v_NO_NAMES:W.nsIn K mainGlobals "NO_NAMES" = some (some (.str "-" t_NO_NAMES)))
   {t_MOST_WEIGHT:Tok} (v_MOST_WEIGHT:W.nsIn K mainGlobals "MOST_WEIGHT" = some (some (.int 5 t_MOST_WEIGHT)))
   {t_MOST_VOTERS:Tok} (v_MOST_VOTERS:W.nsIn K mainGlobals "MOST_VOTERS" = some (some (.int 5 t_MOST_VOTERS)))
   {t_MOST_KEPT:Tok} (v_MOST_KEPT:W.nsIn K mainGlobals "MOST_KEPT" = some (some (.int 20 t_MOST_KEPT)))
   {tW1 tW2 tW3 tW4 tW5 tW6 tW7 tW8 tW9 tW10 tW11 tW12 tW13 tW14 tW15:Addr} {hW1 hW2 hW3 hW4 hW5 hW6 hW7 hW8 hW9 hW10 hW11 hW12 hW13 hW14 hW15:Int} {kW1 kW2 kW3 kW4 kW5 kW6 kW7 kW8 kW9 kW10 kW11 kW12 kW13 kW14 kW15:Tok} {ep:Nat} (gD:W.nsIn K mainGlobals "Desk" = some (some (.ref cD))) (gW:W.nsIn K mainGlobals "WANTED" = some (some (.ref aW))) (lW:K.lookup aW=some ⟨.type "dict",none,.dict #[⟨hW1,.str "let" kW1,.ref tW1⟩,⟨hW2,.str "hits" kW2,.ref tW2⟩,⟨hW3,.str "rests" kW3,.ref tW3⟩,⟨hW4,.str "either" kW4,.ref tW4⟩,⟨hW5,.str "both" kW5,.ref tW5⟩,⟨hW6,.str "in" kW6,.ref tW6⟩,⟨hW7,.str "out" kW7,.ref tW7⟩,⟨hW8,.str "show" kW8,.ref tW8⟩,⟨hW9,.str "says" kW9,.ref tW9⟩,⟨hW10,.str "look" kW10,.ref tW10⟩,⟨hW11,.str "held" kW11,.ref tW11⟩,⟨hW12,.str "compare" kW12,.ref tW12⟩,⟨hW13,.str "turns" kW13,.ref tW13⟩,⟨hW14,.str "ranks" kW14,.ref tW14⟩,⟨hW15,.str "weights" kW15,.ref tW15⟩] ep,#[]⟩) (nW:(aW==sysModules)=false)
   {oW1:Option Addr} {nn1:Nat} {sW1:Array (Option Value)} {u1_0 u1_1:Tok} (eW1:hW1=hashStr w "let") (lW1:K.lookup tW1=some ⟨.type "tuple",oW1,.seq #[.str "new" u1_0,.str "text" u1_1] nn1,sW1⟩)
   {oW2:Option Addr} {nn2:Nat} {sW2:Array (Option Value)} {u2_0 u2_1:Tok} (eW2:hW2=hashStr w "hits") (lW2:K.lookup tW2=some ⟨.type "tuple",oW2,.seq #[.str "new" u2_0,.str "family" u2_1] nn2,sW2⟩)
   {oW3:Option Addr} {nn3:Nat} {sW3:Array (Option Value)} {u3_0 u3_1:Tok} (eW3:hW3=hashStr w "rests") (lW3:K.lookup tW3=some ⟨.type "tuple",oW3,.seq #[.str "new" u3_0,.str "family" u3_1] nn3,sW3⟩)
   {oW4:Option Addr} {nn4:Nat} {sW4:Array (Option Value)} {u4_0 u4_1 u4_2:Tok} (eW4:hW4=hashStr w "either") (lW4:K.lookup tW4=some ⟨.type "tuple",oW4,.seq #[.str "new" u4_0,.str "family" u4_1,.str "family" u4_2] nn4,sW4⟩)
   {oW5:Option Addr} {nn5:Nat} {sW5:Array (Option Value)} {u5_0 u5_1 u5_2:Tok} (eW5:hW5=hashStr w "both") (lW5:K.lookup tW5=some ⟨.type "tuple",oW5,.seq #[.str "new" u5_0,.str "family" u5_1,.str "family" u5_2] nn5,sW5⟩)
   {oW6:Option Addr} {nn6:Nat} {sW6:Array (Option Value)} {u6_0 u6_1 u6_2:Tok} (eW6:hW6=hashStr w "in") (lW6:K.lookup tW6=some ⟨.type "tuple",oW6,.seq #[.str "new" u6_0,.str "family" u6_1,.str "name" u6_2] nn6,sW6⟩)
   {oW7:Option Addr} {nn7:Nat} {sW7:Array (Option Value)} {u7_0 u7_1 u7_2:Tok} (eW7:hW7=hashStr w "out") (lW7:K.lookup tW7=some ⟨.type "tuple",oW7,.seq #[.str "new" u7_0,.str "family" u7_1,.str "name" u7_2] nn7,sW7⟩)
   {oW8:Option Addr} {nn8:Nat} {sW8:Array (Option Value)} {u8_0:Tok} (eW8:hW8=hashStr w "show") (lW8:K.lookup tW8=some ⟨.type "tuple",oW8,.seq #[.str "family" u8_0] nn8,sW8⟩)
   {oW9:Option Addr} {nn9:Nat} {sW9:Array (Option Value)} {u9_0 u9_1:Tok} (eW9:hW9=hashStr w "says") (lW9:K.lookup tW9=some ⟨.type "tuple",oW9,.seq #[.str "family" u9_0,.str "set" u9_1] nn9,sW9⟩)
   {oW10:Option Addr} {nn10:Nat} {sW10:Array (Option Value)} {u10_0 u10_1:Tok} (eW10:hW10=hashStr w "look") (lW10:K.lookup tW10=some ⟨.type "tuple",oW10,.seq #[.str "family" u10_0,.str "set" u10_1] nn10,sW10⟩)
   {oW11:Option Addr} {nn11:Nat} {sW11:Array (Option Value)} {u11_0 u11_1:Tok} (eW11:hW11=hashStr w "held") (lW11:K.lookup tW11=some ⟨.type "tuple",oW11,.seq #[.str "family" u11_0,.str "family" u11_1] nn11,sW11⟩)
   {oW12:Option Addr} {nn12:Nat} {sW12:Array (Option Value)} {u12_0 u12_1 u12_2:Tok} (eW12:hW12=hashStr w "compare") (lW12:K.lookup tW12=some ⟨.type "tuple",oW12,.seq #[.str "family" u12_0,.str "name" u12_1,.str "name" u12_2] nn12,sW12⟩)
   {oW13:Option Addr} {nn13:Nat} {sW13:Array (Option Value)} {u13_0:Tok} (eW13:hW13=hashStr w "turns") (lW13:K.lookup tW13=some ⟨.type "tuple",oW13,.seq #[.str "family" u13_0] nn13,sW13⟩)
   {oW14:Option Addr} {nn14:Nat} {sW14:Array (Option Value)} {u14_0:Tok} (eW14:hW14=hashStr w "ranks") (lW14:K.lookup tW14=some ⟨.type "tuple",oW14,.seq #[.str "family" u14_0] nn14,sW14⟩)
   {oW15:Option Addr} {nn15:Nat} {sW15:Array (Option Value)} {u15_0:Tok} (eW15:hW15=hashStr w "weights") (lW15:K.lookup tW15=some ⟨.type "tuple",oW15,.seq #[.str "family" u15_0] nn15,sW15⟩)
   (pgD:W.plainGet K cD Str.empty=true) (hdD:W.hasDictIn K cD=true) (poD:W.plainOver K cD=true) (saD:W.findIn K (.ref cD) "__setattr__" = some (some (.builtin "object.__setattr__"))) (nwD:W.findIn K (.ref cD) "words" = some none) (nkD:W.findIn K (.ref cD) "kept" = some none) (mkD:W.makesIn K cD=true) (kpD:W.keepIn K (.ref cD)=true) :
   ∃fd:FuncData,(∀(s:Shared) (v:Value),BindsTo s fd ⟨[v],[]⟩ [("_law_script",v)])∧∀base:Heap,K.In base→base.Ns mainGlobals mg→qaQ l.prog w K mg base CX0 12 fa fd ["_law_script"] ((qm7 K)):=by
 have e:=hfa.symm.trans (W.mg_of X G a_law)
 cases e
 have T:Txt mg:=⟨W.mg_none_of X G z_isinstance,W.mg_none_of X G z_int,W.mg_none_of X G z_bool,W.mg_none_of X G z_len,W.mg_none_of X G z_range,W.mg_none_of X G z_sorted,W.mg_none_of X G z_set,W.mg_none_of X G z_list,W.mg_none_of X G z_str,W.mg_none_of X G z_all,W.mg_none_of X G z_reversed,W.mg_none_of X G z_enumerate,W.mg_none_of X G z_sum,W.mg_none_of X G z_max,W.mg_none_of X G z_min,W.mg_none_of X G z_zip,⟨_,W.mg_of X G v_MOST_SETS⟩,⟨_,W.mg_of X G v_MOST_LETTERS⟩,⟨_,W.mg_of X G v_MOST_NAMES⟩,⟨_,W.mg_of X G v_NO_SETS⟩,⟨_,W.mg_of X G v_NO_NAMES⟩,⟨_,W.mg_of X G v_MOST_WEIGHT⟩,⟨_,W.mg_of X G v_MOST_VOTERS⟩,⟨_,W.mg_of X G v_MOST_KEPT⟩⟩
 have EW:qtr K w qi3 [⟨hW1,.str "let" kW1,.ref tW1⟩,⟨hW2,.str "hits" kW2,.ref tW2⟩,⟨hW3,.str "rests" kW3,.ref tW3⟩,⟨hW4,.str "either" kW4,.ref tW4⟩,⟨hW5,.str "both" kW5,.ref tW5⟩,⟨hW6,.str "in" kW6,.ref tW6⟩,⟨hW7,.str "out" kW7,.ref tW7⟩,⟨hW8,.str "show" kW8,.ref tW8⟩,⟨hW9,.str "says" kW9,.ref tW9⟩,⟨hW10,.str "look" kW10,.ref tW10⟩,⟨hW11,.str "held" kW11,.ref tW11⟩,⟨hW12,.str "compare" kW12,.ref tW12⟩,⟨hW13,.str "turns" kW13,.ref tW13⟩,⟨hW14,.str "ranks" kW14,.ref tW14⟩,⟨hW15,.str "weights" kW15,.ref tW15⟩]:=⟨⟨_,_,by rw [eW1],qbL lW1 (by simp) (.cons ⟨_,rfl⟩ (.cons ⟨_,rfl⟩ .nil))⟩,⟨_,_,by rw [eW2],qbL lW2 (by simp) (.cons ⟨_,rfl⟩ (.cons ⟨_,rfl⟩ .nil))⟩,⟨_,_,by rw [eW3],qbL lW3 (by simp) (.cons ⟨_,rfl⟩ (.cons ⟨_,rfl⟩ .nil))⟩,⟨_,_,by rw [eW4],qbL lW4 (by simp) (.cons ⟨_,rfl⟩ (.cons ⟨_,rfl⟩ (.cons ⟨_,rfl⟩ .nil)))⟩,⟨_,_,by rw [eW5],qbL lW5 (by simp) (.cons ⟨_,rfl⟩ (.cons ⟨_,rfl⟩ (.cons ⟨_,rfl⟩ .nil)))⟩,⟨_,_,by rw [eW6],qbL lW6 (by simp) (.cons ⟨_,rfl⟩ (.cons ⟨_,rfl⟩ (.cons ⟨_,rfl⟩ .nil)))⟩,⟨_,_,by rw [eW7],qbL lW7 (by simp) (.cons ⟨_,rfl⟩ (.cons ⟨_,rfl⟩ (.cons ⟨_,rfl⟩ .nil)))⟩,⟨_,_,by rw [eW8],qbL lW8 (by simp) (.cons ⟨_,rfl⟩ .nil)⟩,⟨_,_,by rw [eW9],qbL lW9 (by simp) (.cons ⟨_,rfl⟩ (.cons ⟨_,rfl⟩ .nil))⟩,⟨_,_,by rw [eW10],qbL lW10 (by simp) (.cons ⟨_,rfl⟩ (.cons ⟨_,rfl⟩ .nil))⟩,⟨_,_,by rw [eW11],qbL lW11 (by simp) (.cons ⟨_,rfl⟩ (.cons ⟨_,rfl⟩ .nil))⟩,⟨_,_,by rw [eW12],qbL lW12 (by simp) (.cons ⟨_,rfl⟩ (.cons ⟨_,rfl⟩ (.cons ⟨_,rfl⟩ .nil)))⟩,⟨_,_,by rw [eW13],qbL lW13 (by simp) (.cons ⟨_,rfl⟩ .nil)⟩,⟨_,_,by rw [eW14],qbL lW14 (by simp) (.cons ⟨_,rfl⟩ .nil)⟩,⟨_,_,by rw [eW15],qbL lW15 (by simp) (.cons ⟨_,rfl⟩ .nil)⟩,trivial⟩
 have Z:Xt l.prog w K mg cD aW:=⟨W.mg_of X G gD,⟨pgD,hdD,poD,saD⟩,nwD,nkD,W.mg_of X G gW,qsf lW nW EW⟩
 refine ⟨W.fnOf "law" "law" (qb0 qgX) (qbI qgX) (qag qgX) .none kV_law dc_law pm_law an_law cd_law ct_law,fun s v => .of_eq rfl,fun base _ _=>?_⟩
 have cl:∀{x:Str} {s:Stmt} {f:Addr} {fd:FuncData} {k:Nat} {ps:List Str} {sp:Sp},Dfn K x s f fd→qaQ l.prog w K mg base CX0 k f fd ps sp→qdx K fd ps []→Cal l.prog w K mg base x k ps sp f fd:=fun D o b=>⟨o,W.mg_of X G D.a,D.F.kp,b⟩
 have C_39:=cl D1 (qiA D1.F T ) (D1.F.binds fun _ _ _ _ _ _ us hl=>match us,hl with | [_],_=>rfl)
 have C_29:=cl D2 (qhA D2.F T ) (D2.F.binds fun _ _ _ _ _ _ us hl=>match us,hl with | [_,_],_=>rfl)
 have C_40:=cl D3 (qi1 D3.F T ) (D3.F.binds fun _ _ _ _ _ _ us hl=>match us,hl with | [_,_],_=>rfl)
 have C_30:=cl D4 (qh1 D4.F T ) (D4.F.binds fun _ _ _ _ _ _ us hl=>match us,hl with | [_],_=>rfl)
 have C_15:=cl D5 (qf0 D5.F T C_29 C_40 C_30) (D5.F.binds fun _ _ _ _ _ _ us hl=>match us,hl with | [_,_,_,_],_=>rfl)
 have C_21:=cl D6 (qgT D6.F T C_40) (D6.F.binds fun _ _ _ _ _ _ us hl=>match us,hl with | [_,_],_=>rfl)
 have C_06:=cl D7 (qeP D7.F T ) (D7.F.binds fun _ _ _ _ _ _ us hl=>match us,hl with | [_,_],_=>rfl)
 have C_31:=cl D8 (qhP D8.F T C_06) (D8.F.binds fun _ _ _ _ _ _ us hl=>match us,hl with | [_,_],_=>rfl)
 have C_53:=cl D9 (qlv D9.F T C_39) (D9.F.binds fun _ _ _ _ _ _ us hl=>match us,hl with | [_,_],_=>rfl)
 have C_32:=cl D10 (qhS D10.F T C_53) (D10.F.binds fun _ _ _ _ _ _ us hl=>match us,hl with | [_,_],_=>rfl)
 have C_41:=cl D11 (qiu D11.F T ) (D11.F.binds fun _ _ _ _ _ _ us hl=>match us,hl with | [_],_=>rfl)
 have C_54:=cl D12 (qld D12.F T ) (D12.F.binds fun _ _ _ _ _ _ us hl=>match us,hl with | [_],_=>rfl)
 have C_55:=cl D13 (qli D13.F T ) (D13.F.binds fun _ _ _ _ _ _ us hl=>match us,hl with | [_,_],_=>rfl)
 have C_50:=cl D14 (qkd D14.F T ) (D14.F.binds fun _ _ _ _ _ _ us hl=>match us,hl with | [_],_=>rfl)
 have C_22:=cl D15 (qgH D15.F T C_55 C_50) (D15.F.binds fun _ _ _ _ _ _ us hl=>match us,hl with | [_],_=>rfl)
 have C_33:=cl D16 (qhU D16.F T ) (D16.F.binds fun _ _ _ _ _ _ us hl=>match us,hl with | [_,_],_=>rfl)
 have C_42:=cl D17 (qiw D17.F T C_41) (D17.F.binds fun _ _ _ _ _ _ us hl=>match us,hl with | [_,_],_=>rfl)
 have C_16:=cl D18 (qf1 D18.F T C_42) (D18.F.binds fun _ _ _ _ _ _ us hl=>match us,hl with | [_,_],_=>rfl)
 have C_43:=cl D19 (qi9 D19.F T C_55 C_54 C_33) (D19.F.binds fun _ _ _ _ _ _ us hl=>match us,hl with | [_,_],_=>rfl)
 have C_17:=cl D20 (qfZ D20.F T C_55 C_43 C_32) (D20.F.binds fun _ _ _ _ _ _ us hl=>match us,hl with | [_,_],_=>rfl)
 have C_60:=cl D21 (qoE D21.F T ) (D21.F.binds fun _ _ _ _ _ _ us hl=>match us,hl with | [_,_],_=>rfl)
 have C_61:=cl D22 (qor D22.F T ) (D22.F.binds fun _ _ _ _ _ _ us hl=>match us,hl with | [_,_],_=>rfl)
 have C_66:=cl D23 (qrb D23.F T ) (D23.F.binds fun _ _ _ _ _ _ us hl=>match us,hl with | [_,_],_=>rfl)
 have C_67:=cl D24 (qrk D24.F T C_60) (D24.F.binds fun _ _ _ _ _ _ us hl=>match us,hl with | [_,_],_=>rfl)
 have C_62:=cl D25 (qnu D25.F T C_67) (D25.F.binds fun _ _ _ _ _ _ us hl=>match us,hl with | [_],_=>rfl)
 have C_63:=cl D26 (qou D26.F T C_66) (D26.F.binds fun _ _ _ _ _ _ us hl=>match us,hl with | [_,_],_=>rfl)
 have C_11:=cl D27 (qfG D27.F T C_61) (D27.F.binds fun _ _ _ _ _ _ us hl=>match us,hl with | [_,_],_=>rfl)
 have C_68:=cl D28 (qpM D28.F T C_67 C_11) (D28.F.binds fun _ _ _ _ _ _ us hl=>match us,hl with | [_,_],_=>rfl)
 have C_34:=cl D29 (qh9 D29.F T ) (D29.F.binds fun _ _ _ _ _ _ us hl=>match us,hl with | [_,_],_=>rfl)
 have C_23:=cl D30 (qgA D30.F T ) (D30.F.binds fun _ _ _ _ _ _ us hl=>match us,hl with | [_,_],_=>rfl)
 have C_56:=cl D31 (qmY D31.F T ) (D31.F.binds fun _ _ _ _ _ _ us hl=>match us,hl with | [_,_],_=>rfl)
 have C_69:=cl D32 (qp0 D32.F T ) (D32.F.binds fun _ _ _ _ _ _ us hl=>match us,hl with | [_,_],_=>rfl)
 have C_00:=cl D33 (qcT D33.F T ) (D33.F.binds fun _ _ _ _ _ _ us hl=>match us,hl with | [_,_,_],_=>rfl)
 have C_57:=cl D34 (qlq D34.F T C_11 C_41 C_00) (D34.F.binds fun _ _ _ _ _ _ us hl=>match us,hl with | [_,_],_=>rfl)
 have C_04:=cl D35 (qen D35.F T C_67 C_66) (D35.F.binds fun _ _ _ _ _ _ us hl=>match us,hl with | [_,_,_],_=>rfl)
 have C_70:=cl D36 (qpN D36.F T C_04 C_11) (D36.F.binds fun _ _ _ _ _ _ us hl=>match us,hl with | [_,_,_],_=>rfl)
 have C_44:=cl D37 (qiY D37.F T C_67) (D37.F.binds fun _ _ _ _ _ _ us hl=>match us,hl with | [_,_],_=>rfl)
 have C_51:=cl D38 (qku D38.F T C_63 C_68) (D38.F.binds fun _ _ _ _ _ _ us hl=>match us,hl with | [_,_],_=>rfl)
 have C_07:=cl D39 (qeQ D39.F T C_61) (D39.F.binds fun _ _ _ _ _ _ us hl=>match us,hl with | [_,_,_,_],_=>rfl)
 have C_18:=cl D40 (qf4 D40.F T C_07) (D40.F.binds fun _ _ _ _ _ _ us hl=>match us,hl with | [_,_,_,_],_=>rfl)
 have C_45:=cl D41 (qjg D41.F T C_18 C_44) (D41.F.binds fun _ _ _ _ _ _ us hl=>match us,hl with | [_,_,_,_],_=>rfl)
 have C_35:=cl D42 (qhr D42.F T ) (D42.F.binds fun _ _ _ _ _ _ us hl=>match us,hl with | [_,_,_],_=>rfl)
 have C_64:=cl D43 (qoe D43.F T C_44 C_35) (D43.F.binds fun _ _ _ _ _ _ us hl=>match us,hl with | [_,_],_=>rfl)
 have C_12:=cl D44 (qfm D44.F T ) (D44.F.binds fun _ _ _ _ _ _ us hl=>match us,hl with | [_],_=>rfl)
 have C_01:=cl D45 (qcQ D45.F T C_42) (D45.F.binds fun _ _ _ _ _ _ us hl=>match us,hl with | [_,_],_=>rfl)
 have C_19:=cl D46 (qfY D46.F T C_01 C_42) (D46.F.binds fun _ _ _ _ _ _ us hl=>match us,hl with | [_,_],_=>rfl)
 have C_58:=cl D47 (qmT D47.F T ) (D47.F.binds fun _ _ _ _ _ _ us hl=>match us,hl with | [_],_=>rfl)
 have C_65:=cl D48 (qnB D48.F T C_44 C_58 C_18 C_64) (D48.F.binds fun _ _ _ _ _ _ us hl=>match us,hl with | [_,_],_=>rfl)
 have C_24:=cl D49 (qgR D49.F T ) (D49.F.binds fun _ _ _ _ _ _ us hl=>match us,hl with | [_,_],_=>rfl)
 have C_25:=cl D50 (qgF D50.F T C_24) (D50.F.binds fun _ _ _ _ _ _ us hl=>match us,hl with | [_,_],_=>rfl)
 have C_36:=cl D51 (qhL D51.F T C_41) (D51.F.binds fun _ _ _ _ _ _ us hl=>match us,hl with | [_,_],_=>rfl)
 have C_59:=cl D52 (qkT D52.F T ) (D52.F.binds fun _ _ _ _ _ _ us hl=>match us,hl with | [_,_,_,_],_=>rfl)
 have C_20:=cl D53 (qf5 D53.F T C_36) (D53.F.binds fun _ _ _ _ _ _ us hl=>match us,hl with | [_,_,_],_=>rfl)
 have D_08:∀n,Cal l.prog w K mg base "falling_lists" (1+n) ["length", "most"] (qrK K n) f54 d54:=fun n=>by
   induction n with
   | zero=>exact cl D54 (qfu D54.F) (D54.F.binds fun _ _ _ _ _ _ us hl=>match us,hl with | [_,_],_=>rfl)
   | succ n ih=>exact cl D54 (qeN D54.F T  n ih) (D54.F.binds fun _ _ _ _ _ _ us hl=>match us,hl with | [_,_],_=>rfl)
 have C_08:=D_08 6
 have C_37:=cl D55 (qih D55.F T ) (D55.F.binds fun _ _ _ _ _ _ us hl=>match us,hl with | [_,_,_],_=>rfl)
 have C_52:=cl D56 (qkI D56.F T C_62 C_51 C_08 C_37 C_20) (D56.F.binds fun _ _ _ _ _ _ us hl=>match us,hl with | [_,_,_],_=>rfl)
 have C_26:=cl D57 (qg0 D57.F T C_65 C_52 C_59) (D57.F.binds fun _ _ _ _ _ _ us hl=>match us,hl with | [_,_],_=>rfl)
 have C_13:=cl D58 (qfb D58.F T C_42 C_12) (D58.F.binds fun _ _ _ _ _ _ us hl=>match us,hl with | [_,_],_=>rfl)
 have C_03:=cl D59 (qdI D59.F T C_45) (D59.F.binds fun _ _ _ _ _ _ us hl=>match us,hl with | [_,_,_,_],_=>rfl)
 have C_46:=cl D60 (qje D60.F T C_50) (D60.F.binds fun _ _ _ _ _ _ us hl=>match us,hl with | [_],_=>rfl)
 have C_47:=cl D61 (qiD D61.F T Z ) (D61.F.binds fun _ _ _ _ _ _ us hl=>match us,hl with | [_],_=>rfl)
 have C_09:qp5 l.prog w K mg base cD _ _ _ _ _:=⟨qeM D62.F T Z C_22,⟨mkD,D62.a,D62.i,kpD⟩,(D62.F.binds fun _ _ _ _ _ _ us hl=>match us,hl with | [_,_],_=>rfl)⟩
 have C_05:qgE l.prog w K mg base cD "family_by" _ _ _ _ _:=⟨qee D63.F T Z ,⟨D63.a,D63.i,D63.F.kp⟩,(D63.F.binds fun _ _ _ _ _ _ us hl=>match us,hl with | [_,_],_=>rfl)⟩
 have C_02:qgE l.prog w K mg base cD "look_for_room" _ _ _ _ _:=⟨qcL D64.F T Z ,⟨D64.a,D64.i,D64.F.kp⟩,(D64.F.binds fun _ _ _ _ _ _ us hl=>match us,hl with | [_,_],_=>rfl)⟩
 have C_10:qgE l.prog w K mg base cD "thing_of" _ _ _ _ _:=⟨qeR D65.F T Z C_17 C_46 C_05 C_33 C_43,⟨D65.a,D65.i,D65.F.kp⟩,(D65.F.binds fun _ _ _ _ _ _ us hl=>match us,hl with | [_,_,_],_=>rfl)⟩
 have C_71:=cl D66 (qqh D66.F T C_23 C_68 C_63 C_56 C_69 C_34) (D66.F.binds fun _ _ _ _ _ _ us hl=>match us,hl with | [_,_,_],_=>rfl)
 have C_48:=cl D67 (qiT D67.F T C_13 C_16 C_19 C_01 C_12 C_25 C_26 C_67 C_57 C_70 C_03 C_64 C_65) (D67.F.binds fun _ _ _ _ _ _ us hl=>match us,hl with | [_,_,_],_=>rfl)
 have C_49:qgE l.prog w K mg base cD "say" _ _ _ _ _:=⟨qiJ D68.F T Z C_47 C_48 C_10 C_02 C_71,⟨D68.a,D68.i,D68.F.kp⟩,(D68.F.binds fun _ _ _ _ _ _ us hl=>match us,hl with | [_,_],_=>rfl)⟩
 have C_38:=cl D69 (qii D69.F T C_06) (D69.F.binds fun _ _ _ _ _ _ us hl=>match us,hl with | [_,_],_=>rfl)
 have C_27:=cl D70 (qgJ D70.F T ) (D70.F.binds fun _ _ _ _ _ _ us hl=>match us,hl with | [_,_],_=>rfl)
 have C_14:=cl D71 (qfE D71.F T C_06) (D71.F.binds fun _ _ _ _ _ _ us hl=>match us,hl with | [_,_],_=>rfl)
 have C_28:=cl D72 (qgG D72.F T C_06 C_40 C_70 C_45 C_14 C_38 C_27 C_26 C_57 C_65 C_67 C_64) (D72.F.binds fun _ _ _ _ _ _ us hl=>match us,hl with | [_,_,_,_,_],_=>rfl)
 exact qsT (qlW (st:=qgX) l_law c_law k_law) T Z C_21 C_09 C_15 C_49 C_40 C_29 C_28 C_31
def walk {l:W.OpenLaw} {q:Program} {loose:List Str} {XP:(Str→Option Value)→Heap→Prop} {YP:World→Heap→Prop} {d:DefRec} {K:Params→W.Frag} (hn:l.most=some 63) (hdf:d.params.defaults=[])
   (hY:∀(w:World) (h:Heap),YP w h→(K w.params).In h)
   (F:∀(w:World) (mg:Str→Option Value) (fa:Addr) (h:Heap),(K w.params).In h→h.Ns mainGlobals mg→mg d.name=some (.ref fa) →
     ∃fd:FuncData,(∀(s:Shared) (u:Value),BindsTo s fd ⟨[u],[]⟩ [("_law_script",u)])∧∀base:Heap,(K w.params).In base→base.Ns mainGlobals mg→qaQ l.prog w (K w.params) mg base CX0 12 fa fd ["_law_script"] ((qm7 (K w.params)))) :
   W.WalkO q loose XP YP l.row.toRowW d [] (fun f vs=>PySem.call f vs) :=
 L2.walk_of (n:=63) (k:=12) (x := "_law_script") (CX:=fun _=>CX0) (sp:=fun w=>(qm7 (K w.params))) hn (by decide) hdf ⟨rfl,by decide,by decide⟩ hY F (fun _ _ a ns hl _ hS=>⟨_,rfl,a,ns,rfl,hS,hl,fun _=>rfl⟩) fun _ _ _ _ _ z=>z
end Zk49
namespace PySem.W.Fast
def tw4172339234884655925:=0
def tw15123945553542956699:=0
def tw5698542773003670560:=0
def tw14075590547819577291:=0
def tw4789575527875868854:=0
def tw8690398197616626718:=0
def tw14196418721406804714:=0
def tw6701276077420618732:=0
def tw10929267988132661782:=0
def tw908251426565851519:=0
def tw8799135374065551098:=0
def tw14319741885651687560:=0
def tw6194278435678785404:=0
def tw17566736537060055383:=0
def tw15952928997403579262:=0
def tw6219073688728866149:=0
def tw6054978511947900272:=0
def tw15722167465337089780:=0
def tw7349665060965562546:=0
def tw8278821265761906822:=0
def tw15611252193849437846:=0
def tw15713672460337619595:=0
def tw6591729395633184704:=0
def tw9951206299155462617:=0
def tw17502651120931968510:=0
def tw13677207324239492204:=0
def tw11952207333802788652:=0
def tw8108116804080790823:=0
def tw948759483440837638:=0
def tw15891899210574518282:=0
def tw1685197654502893923:=0
def tw12430584650232759553:=0
def tw7639189348623178869:=0
def tw2273466372061919557:=0
def tw5043076526615971701:=0
def tw7628946632572851835:=0
def tw2441416697363664804:=0
def tw13220657644247707077:=0
def tw6101644047016828367:=0
def tw6879770700814829151:=0
def tw3303849282085246969:=0
def tw3677504414424810435:=0
def tw9901074036652616305:=0
def tw5881454762282772763:=0
def tw18302362823253101673:=0
def tw769948369570261898:=0
def tw17652115082933491498:=0
def tw3993133369109739212:=0
def tw9548817438402687044:=0
def tw148763227005437304:=0
def tw9256892161445563546:=0
def tw4845008085269062740:=0
def tw2212196285818698177:=0
def tw10172401994777978317:=0
def tw6260085058964779129:=0
def tw17477349967618965356:=0
def tw8776729780909589962:=0
def tw9523916292986144182:=0
def tw13939439459770695670:=0
def tw519335817219810568:=0
def tw2810675795353781563:=0
def tw13905787886598662340:=0
def tw5176688024082795902:=0
def tw278789243628458886:=0
def tw12111003177551442104:=0
def tw856562005916883789:=0
def tw18350627839367421613:=0
def tw18081591060893120174:=0
def tw857518374583008819:=0
def tw4980831734725905176:=0
def tw3014991258505617252:=0
def tw5973913942559896169:=0
def tw17728590169216741746:=0
def tw13905202295698191039:=0
def tw8579639923438884376:=0
def tw3478014532678469250:=0
def tw14590685364667002273:=0
def tw2116872889257086066:=0
def tw17009145063000377957:=0
def tw18392826899356462961:=0
def tw15199377271279535752:=0
def tw3805060660418643333:=0
def tw11257801364679401067:=0
def tw12648131416397295886:=0
def tw3648434842839983577:=0
def tw6456325674502992573:=0
def tw13636550046701190395:=0
def tw752566895031361430:=0
def tw16526727951797887480:=0
def tw16502337816251871264:=0
def tw15055842499467931319:=0
def tw6075417388145891621:=0
def tw7417426586260998024:=0
def tw9550538381655560139:=0
def tw11455795612423099485:=0
def tw13848395244554948745:=0
def tw1940016902684535201:=0
def tw14317927088313503793:=0
def tw14769929293939040126:=0
def tw1379782779112533678:=0
def tw6976548125783704522:=0
def tw5324689007967438673:=0
def tw12284535726025960562:=0
def tw1222996455170820996:=0
def tw9281070813361578052:=0
def tw835139484206222675:=0
def tw9543355359500031501:=0
def tw15542479559329701914:=0
def tw12529422603051109507:=0
def tw8799602940130603890:=0
def tw8890585824779931922:=0
def tw6115213122910901008:=0
def tw12964728434409842299:=0
def tw16330084338206783631:=0
def tw3196450554073046668:=0
def tw10462678078578723694:=0
def tw11356265422154875358:=0
def tw4262806943283078849:=0
def tw15167624675689144496:=0
def tw7597261298408741156:=0
def tw13884695438032089541:=0
def tw15823058704895633383:=0
def tw12529911375382705582:=0
def tw1675988002849995926:=0
def tw2433648850451676671:=0
def tw3741148921005364632:=0
def tw5708492610465938735:=0
def tw1455714936010447624:=0
def tw11771269567321785404:=0
def tw8576311467060831359:=0
def tw6614952921820404566:=0
def tw15273085078605862804:=0
def tw835106387323518182:=0
def tw2522858569347391383:=0
def tw10311682300850177304:=0
def tw11077522895060031657:=0
def tw14074464005010691124:=0
def tw10627411770444874804:=0
def tw12365250059940760842:=0
def tw13006760895213797139:=0
def tw12684095788081192178:=0
def tw12201279627914417197:=0
def tw6236097801059118645:=0
def tw5174343286303042862:=0
def tw13023631035447563031:=0
def tw5433984284589361755:=0
def tw15699672022090271902:=0
def tw4292958579966539771:=0
def tw13112011806191749225:=0
def tw17578198922525068119:=0
def tw7624413243991983963:=0
def tw11151311412129589945:=0
def tw6203934327233714845:=0
def tw13055398317267347717:=0
def tw7152558456010536801:=0
def tw15438358329229174869:=0
def tw17209423137322463617:=0
def tw9837380038796210919:=0
def tw18325078015265966528:=0
def tw14137289624780943695:=0
def tw16366848979121734711:=0
def tw11653500919496927752:=0
def tw1034580629445931248:=0
def tw1350935497982935215:=0
def tw12672836291707564739:=0
def tw3225676160265583563:=0
def tw18194020663229893248:=0
def tw12448448843144203506:=0
def tw639674236819351172:=0
def tw2425354472199810996:=0
def tw9760313177915204914:=0
def tw5307819446994381787:=0
def tw7546599842809326632:=0
def tw18201767200985107843:=0
def tw14648100914525633138:=0
def tw12054077618813911370:=0
def tw16292231560977338118:=0
def tw1369938338108092188:=0
def tw13563922145266146764:=0
def tw6538196291200850613:=0
def tw9468983551666091167:=0
def tw3310031043209507142:=0
def tw12779477680446791462:=0
def tw1900808604152993871:=0
def tw3524912958163248852:=0
def tw14512370653485356217:=0
def tw4838976341001628168:=0
def tw14973576516355485160:=0
def tw11011354980111733406:=0
def tw689777849064057079:=0
def tw12532925889978229637:=0
def tw11425879737317283783:=0
def tw7271113355584590387:=0
def tw512149856399637259:=0
def tw14075309671055771398:=0
def tw16363564408119126621:=0
def tw1676847577066934971:=0
def tw8376255580404689385:=0
def tw17319873295787321375:=0
def tw3168147914018821208:=0
def tw6312903029190929631:=0
def tw13784438024324483147:=0
def tw5803858423869580952:=0
def tw17285452896347235224:=0
def tw13945479682515009427:=0
def tw9445493792819663613:=0
def tw7614496320142643338:=0
def tw6393574794703847526:=0
def tw4049805387842690842:=0
def tw12531330950624957698:=0
def tw5417298087271155286:=0
def tw13523816069288310495:=0
def tw348488271220574571:=0
def tw7974485625186489160:=0
def tw16651168821188328998:=0
def tw11506262698679428940:=0
def tw6756576927847021072:=0
def tw14762023894172445444:=0
def tw13796134617763831964:=0
def tw15697057135916809560:=0
def tw6001530236567766367:=0
def tw13113308281811134674:=0
def tw7312574646451762676:=0
def tw6540209116128539687:=0
def tw15667467734457655804:=0
def tw12032229106517499314:=0
def tw560644727471332229:=0
def tw231547341227071547:=0
def tw10161580669887695741:=0
def tw16252961353996359207:=0
def tw12761656890327061057:=0
def tw18192124933782306085:=0
def tw5043219124942340502:=0
def tw11116182841328519916:=0
def tw2622232542892261254:=0
def tw8706152602656964345:=0
def tw8228102517641928343:=0
def tw9459629989743714589:=0
def tw10361851663422224136:=0
def tw13395184965839620735:=0
def tw1315838558991031117:=0
def tw5194423083852139684:=0
def tw15259219825079005983:=0
def tw2304553820640710230:=0
def tw13771673161675652415:=0
def tw5754348954446179685:=0
def tw12135525475492468746:=0
def tw3293510050835509335:=0
def tw17204372672516840169:=0
def tw13164147714159872760:=0
def tw12311375871046262949:=0
def tw11966058303690815804:=0
def tw17725949675613869755:=0
def tw15312940094278526619:=0
def tw17825060972095685929:=0
def tw11578232057010048007:=0
def tw14751089599613807787:=0
def tw15995003498174035335:=0
def tw4841731333859546338:=0
def tw1641299714428945164:=0
def tw12822942307134764590:=0
def tw17575499102122325165:=0
def tw15157117484017492352:=0
def tw1624334519556432103:=0
def tw479323983982468390:=0
def tw2707548604032351136:=0
def tw2301411194245870677:=0
def tw8788007774038949766:=0
def tw12003990236420944379:=0
def tw3671858914466522979:=0
def tw7400183193824431197:=0
def tw12389886510307550491:=0
def tw6459038949077196181:=0
def tw13628014402953958505:=0
def tw17059718496835677661:=0
def tw8315971339878199385:=0
def tw4954142325922755182:=0
def tw17529152336505143161:=0
def tw12349800239160481818:=0
def tw5087663778998063847:=0
def tw7945870727625481314:=0
def tw16609869780083340470:=0
def tw7984464805588659236:=0
def tw2431714643466247837:=0
def tw312598435950563016:=0
def tw15271525174869884686:=0
def tw8483094822553412529:=0
def tw12355073460481256530:=0
def tw11143319989673335570:=0
def tw717483331566707164:=0
def tw17357812312658956473:=0
def tw13583230493356525177:=0
def tw1456620198802251610:=0
def tw8552447951611924477:=0
def tw16481063748499788239:=0
def tw12547965896515419499:=0
def tw3476349929552529882:=0
def tw13086177238418902018:=0
def tw6840310004078401318:=0
def tw12277181242919807209:=0
def tw924684626030373476:=0
def tw15433048313876164196:=0
def tw10245722848428395150:=0
def tw10102934782038322047:=0
def tw15828691841785629140:=0
def tw14610167288743147122:=0
def tw7888533678462666261:=0
def tw16310518213613039073:=0
def tw6467646704090272975:=0
def tw16812164418979132325:=0
def tw12207658946974478959:=0
def tw3838504112017481239:=0
def tw7620698458578131179:=0
def tw9611859283031423533:=0
def tw17635320813555666786:=0
def tw2391788798196520244:=0
def tw9274705517357417502:=0
def tw17665324666843386757:=0
def tw4615061878993160110:=0
def tw2629997183114540798:=0
def tw11697029777462237909:=0
def tw8666354339289706024:=0
def tw15738604451924291936:=0
def tw8200495496709663409:=0
def tw3612959597714684099:=0
def tw13288440052039838830:=0
def tw16288917685443152851:=0
def tw7502876768202735619:=0
def tw7363216831437707659:=0
def tw8922909897417935904:=0
def tw500163173116673434:=0
def tw16232927051542260819:=0
def tw5084647858724446545:=0
def tw5524531719530691590:=0
def tw16253156586870468502:=0
def tw6200081945569303485:=0
def tw3169304550130494155:=0
def tw18392480460870298451:=0
def tw12212525195786680259:=0
def tw10741118163566710384:=0
def tw1261280474465639708:=0
def tw6253791536368313707:=0
def tw18273991698753725167:=0
def tw10169235144173996230:=0
def tw12319603522319849008:=0
def tw4998816711090152494:=0
def tw3473992963373446281:=0
def tw1821437586041226675:=0
def tw9844258710153643758:=0
def tw3321189357147082101:=0
def tw10118385759689173549:=0
def tw3996249260768368057:=0
def tw17613728860906158811:=0
def tw14717040021389817106:=0
def tw1353054188124576614:=0
def tw13723847264687188199:=0
def tw6900900593223480258:=0
def tw13104476059743950152:=0
def tw5613238919357936288:=0
def tw15108725030635961391:=0
def tw3645874235571475124:=0
def tw6897990659334754794:=0
def tw4051590799300212891:=0
def tw7910229784294795793:=0
def tw13443690009267655147:=0
def tw7463086317178229347:=0
def tw13079013963692217782:=0
def tw17073249596451092099:=0
def tw13258567083345251520:=0
def tw5488941571871459372:=0
def tw10015471594564939204:=0
def tw12982764819472412373:=0
def tw5248725029000442439:=0
def tw7529839940318306518:=0
def tw815478246164392461:=0
def tw7033205648395251177:=0
def tw12002931503533196714:=0
def tw11873217837159356149:=0
def tw10576562363524296039:=0
def tw6218025099907843687:=0
def tw2463968485765611223:=0
def tw15541216679917890561:=0
def tw1163359679427336360:=0
def tw5454815493100779291:=0
def tw4582360550172995833:=0
def tw5538874972265261798:=0
def tw16160187516686331219:=0
def tw4826003863369379303:=0
def tw12695573016241079584:=0
def tw12398889418001762926:=0
def tw9438691756874400286:=0
def tw4457235590632917480:=0
def tw17975970771977052349:=0
def tw16167522640603657038:=0
def tw7566483044223118031:=0
def tw15728253049189715689:=0
def tw12937252659191496461:=0
def tw613464115303822544:=0
def tw12122332364901651421:=0
def tw17709129147447057456:=0
def tw11767143798783964342:=0
def tw17721743357880681678:=0
def tw240861706456840073:=0
def tw898284133812406135:=0
def tw11317227787600758168:=0
def tw12278606393623601427:=0
def tw9015397896407932451:=0
def tw7490168796654189069:=0
def tw3929458225023705721:=0
def tw6379598553249873959:=0
def tw8872812802128183732:=0
def tw17468407935802808548:=0
def tw3722636582740456323:=0
def tw10287966640396102566:=0
def tw11185679423005175196:=0
def tw10783319849322385713:=0
def tw10308743887643617735:=0
def tw15533245069672426007:=0
def tw16273072807275048562:=0
def tw11976269392985212428:=0
def tw4243472315317216083:=0
def tw9028157404016517872:=0
def tw2550947014984204417:=0
def tw10753591677198903483:=0
def tw7744652593946162635:=0
def tw14734925161720916939:=0
def tw16848464942790220325:=0
def tw11474227341075493569:=0
def tw12874949520023267774:=0
def tw18294640010662222598:=0
def tw10672320439361136290:=0
def tw13475024364179935044:=0
def tw8457365053365044609:=0
def tw939367360472144:=0
def tw772445393683083116:=0
def tw12179335160582990990:=0
def tw7752749195901363390:=0
def tw16247877315863728895:=0
def tw2116235165835403631:=0
def tw7328906973839190704:=0
def tw16492955781203166740:=0
def tw9350291861678701117:=0
def tw1384980779173806703:=0
def tw10469374893859112057:=0
def tw10447871444767791280:=0
def tw3377715618368200356:=0
def tw6513391856619810503:=0
def tw8702387187707117535:=0
def tw757954787331176160:=0
def tw2064791541219355:=0
def tw6400213451661772000:=0
def tw2663172568247855410:=0
def tw2272449503653164824:=0
def tw17357862535533607667:=0
def tw8678712940834721513:=0
def tw5928297080780193501:=0
def tw14451053105509289167:=0
def tw13702959336872206693:=0
def tw15048641676971338577:=0
def tw726020244763450690:=0
def tw2208118356828002057:=0
def tw8361189848493026881:=0
def tw18351912333987328518:=0
def tw7867048244805332301:=0
def tw13177007684946715019:=0
def tw16663517031555993962:=0
def tw1108310172004292326:=0
def tw1292678546156752323:=0
def tw16469732913439598524:=0
def tw8888032517401599444:=0
def tw5006506762501887283:=0
def tw3520767213189784119:=0
def tw2030918696275955429:=0
def tw5822350903183404921:=0
def tw3110615849541649280:=0
def tw15021273737616840158:=0
def tw11246114408209099549:=0
def tw2252187548870137266:=0
def tw1342921641152434136:=0
def tw14752982726891502145:=0
def tw11402768418138975256:=0
def tw2827946126233680311:=0
def tw9499785288012546587:=0
def tw13208893518395613186:=0
def tw6857809398815397701:=0
def tw4811803001843912527:=0
def tw1687111292072892658:=0
def tw3116954777349001268:=0
def tw6675446063020337056:=0
def tw17887704791397465918:=0
def tw13252314902205589978:=0
def tw13526115135335734598:=0
def tw17265211122163916902:=0
def tw5751673090773856929:=0
def tw2857882474151907300:=0
def tw9513739201973597630:=0
def tw11358941545491056040:=0
def tw3887282885658536270:=0
def tw18317947093333638844:=0
def tw2750660052732953354:=0
def tw4533054706850773584:=0
def tw4670259125657372160:=0
def tw2891635709943954465:=0
def tw1516605099710455536:=0
def tw4866717250084450138:=0
def tw860137571178463902:=0
def tw5211823851704609624:=0
def tw10811580395488326125:=0
def tw6909187236749626056:=0
def tw14274917032900261001:=0
def tw13606972544463952059:=0
def tw6572185469648351966:=0
def tw2050221236528998544:=0
def tw14341901112237987432:=0
def tw12189990689379943250:=0
def tw8614813556404739769:=0
def tw16070755911072659873:=0
def tw10432303767185135452:=0
def tw3601136641172742658:=0
def tw5260763007391749833:=0
def tw2887346089852778474:=0
def tw17314579473939370854:=0
def tw333332950993298130:=0
def tw3527088760826937405:=0
def tw12335664934959121246:=0
def tw270044277191085650:=0
def tw15095868118662844210:=0
def tw15079996517661179445:=0
end PySem.W.Fast
open PySem PySem.W PyProof.Rows
set_option maxRecDepth 100000 in
set_option maxHeartbeats 0 in
theorem PySem.Challenge.cw_allhits_k49_what_a_desk_answers_holds : PySem.Challenge.rw_allhits_k49_what_a_desk_answers.Holds := by
 w_on;o_law;k_head;(case hw=>w_witness2)
 k_fill
 refine Zk49.walk (l:=PySem.Challenge.rw_allhits_k49_what_a_desk_answers) rfl rfl (fun w h Y=>W.kIn_of Y) ?F
 case F =>
   intro w mg fa h KX G hmg
   refine' Zk49.all_mk KX G hmg (Zk49.dn ?a1 ?b1 ?c1 ?d1) (Zk49.dn ?a2 ?b2 ?c2 ?d2) (Zk49.dn ?a3 ?b3 ?c3 ?d3) (Zk49.dn ?a4 ?b4 ?c4 ?d4) (Zk49.dn ?a5 ?b5 ?c5 ?d5) (Zk49.dn ?a6 ?b6 ?c6 ?d6) (Zk49.dn ?a7 ?b7 ?c7 ?d7) (Zk49.dn ?a8 ?b8 ?c8 ?d8) (Zk49.dn ?a9 ?b9 ?c9 ?d9) (Zk49.dn ?a10 ?b10 ?c10 ?d10) (Zk49.dn ?a11 ?b11 ?c11 ?d11) (Zk49.dn ?a12 ?b12 ?c12 ?d12) (Zk49.dn ?a13 ?b13 ?c13 ?d13) (Zk49.dn ?a14 ?b14 ?c14 ?d14) (Zk49.dn ?a15 ?b15 ?c15 ?d15) (Zk49.dn ?a16 ?b16 ?c16 ?d16) (Zk49.dn ?a17 ?b17 ?c17 ?d17) (Zk49.dn ?a18 ?b18 ?c18 ?d18) (Zk49.dn ?a19 ?b19 ?c19 ?d19) (Zk49.dn ?a20 ?b20 ?c20 ?d20) (Zk49.dn ?a21 ?b21 ?c21 ?d21) (Zk49.dn ?a22 ?b22 ?c22 ?d22) (Zk49.dn ?a23 ?b23 ?c23 ?d23) (Zk49.dn ?a24 ?b24 ?c24 ?d24) (Zk49.dn ?a25 ?b25 ?c25 ?d25) (Zk49.dn ?a26 ?b26 ?c26 ?d26) (Zk49.dn ?a27 ?b27 ?c27 ?d27) (Zk49.dn ?a28 ?b28 ?c28 ?d28) (Zk49.dn ?a29 ?b29 ?c29 ?d29) (Zk49.dn ?a30 ?b30 ?c30 ?d30) (Zk49.dn ?a31 ?b31 ?c31 ?d31) (Zk49.dn ?a32 ?b32 ?c32 ?d32) (Zk49.dn ?a33 ?b33 ?c33 ?d33) (Zk49.dn ?a34 ?b34 ?c34 ?d34) (Zk49.dn ?a35 ?b35 ?c35 ?d35) (Zk49.dn ?a36 ?b36 ?c36 ?d36) (Zk49.dn ?a37 ?b37 ?c37 ?d37) (Zk49.dn ?a38 ?b38 ?c38 ?d38) (Zk49.dn ?a39 ?b39 ?c39 ?d39) (Zk49.dn ?a40 ?b40 ?c40 ?d40) (Zk49.dn ?a41 ?b41 ?c41 ?d41) (Zk49.dn ?a42 ?b42 ?c42 ?d42) (Zk49.dn ?a43 ?b43 ?c43 ?d43) (Zk49.dn ?a44 ?b44 ?c44 ?d44) (Zk49.dn ?a45 ?b45 ?c45 ?d45) (Zk49.dn ?a46 ?b46 ?c46 ?d46) (Zk49.dn ?a47 ?b47 ?c47 ?d47) (Zk49.dn ?a48 ?b48 ?c48 ?d48) (Zk49.dn ?a49 ?b49 ?c49 ?d49) (Zk49.dn ?a50 ?b50 ?c50 ?d50) (Zk49.dn ?a51 ?b51 ?c51 ?d51) (Zk49.dn ?a52 ?b52 ?c52 ?d52) (Zk49.dn ?a53 ?b53 ?c53 ?d53) (Zk49.dn ?a54 ?b54 ?c54 ?d54) (Zk49.dn ?a55 ?b55 ?c55 ?d55) (Zk49.dn ?a56 ?b56 ?c56 ?d56) (Zk49.dn ?a57 ?b57 ?c57 ?d57) (Zk49.dn ?a58 ?b58 ?c58 ?d58) (Zk49.dn ?a59 ?b59 ?c59 ?d59) (Zk49.dn ?a60 ?b60 ?c60 ?d60) (Zk49.dn ?a61 ?b61 ?c61 ?d61) (Zk49.dm ?a62 ?i62 ?b62 ?c62 ?d62) (Zk49.dm ?a63 ?i63 ?b63 ?c63 ?d63) (Zk49.dm ?a64 ?i64 ?b64 ?c64 ?d64) (Zk49.dm ?a65 ?i65 ?b65 ?c65 ?d65) (Zk49.dn ?a66 ?b66 ?c66 ?d66) (Zk49.dn ?a67 ?b67 ?c67 ?d67) (Zk49.dm ?a68 ?i68 ?b68 ?c68 ?d68) (Zk49.dn ?a69 ?b69 ?c69 ?d69) (Zk49.dn ?a70 ?b70 ?c70 ?d70) (Zk49.dn ?a71 ?b71 ?c71 ?d71) (Zk49.dn ?a72 ?b72 ?c72 ?d72) ?a_law ?l_law ?c_law ?k_law ?z_isinstance ?z_int ?z_bool ?z_len ?z_range ?z_sorted ?z_set ?z_list ?z_str ?z_all ?z_reversed ?z_enumerate ?z_sum ?z_max ?z_min ?z_zip ?v_MOST_SETS ?v_MOST_LETTERS ?v_MOST_NAMES ?v_NO_SETS ?v_NO_NAMES ?v_MOST_WEIGHT ?v_MOST_VOTERS ?v_MOST_KEPT ?gD ?gW ?lW ?nW ?eW1 ?lW1 ?eW2 ?lW2 ?eW3 ?lW3 ?eW4 ?lW4 ?eW5 ?lW5 ?eW6 ?lW6 ?eW7 ?lW7 ?eW8 ?lW8 ?eW9 ?lW9 ?eW10 ?lW10 ?eW11 ?lW11 ?eW12 ?lW12 ?eW13 ?lW13 ?eW14 ?lW14 ?eW15 ?lW15 ?pgD ?hdD ?poD ?saD ?nwD ?nkD ?mkD ?kpD
   (case gD | gW | lW=>k_is)
   (case a1 | b1 | c1 | d1 | a2 | b2 | c2 | d2 | a3 | b3 | c3 | d3 | a4 | b4 | c4 | d4 | a5 | b5 | c5 | d5 | a6 | b6 | c6 | d6 | a7 | b7 | c7 | d7 | a8 | b8 | c8 | d8 | a9 | b9 | c9 | d9 | a10 | b10 | c10 | d10 | a11 | b11 | c11 | d11 | a12 | b12 | c12 | d12 | a13 | b13 | c13 | d13 | a14 | b14 | c14 | d14 | a15 | b15 | c15 | d15 | a16 | b16 | c16 | d16 | a17 | b17 | c17 | d17 | a18 | b18 | c18 | d18 | a19 | b19 | c19 | d19 | a20 | b20 | c20 | d20 | a21 | b21 | c21 | d21 | a22 | b22 | c22 | d22 | a23 | b23 | c23 | d23 | a24 | b24 | c24 | d24 | a25 | b25 | c25 | d25 | a26 | b26 | c26 | d26 | a27 | b27 | c27 | d27 | a28 | b28 | c28 | d28 | a29 | b29 | c29 | d29 | a30 | b30 | c30 | d30 | a31 | b31 | c31 | d31 | a32 | b32 | c32 | d32 | a33 | b33 | c33 | d33 | a34 | b34 | c34 | d34 | a35 | b35 | c35 | d35 | a36 | b36 | c36 | d36 | a37 | b37 | c37 | d37 | a38 | b38 | c38 | d38 | a39 | b39 | c39 | d39 | a40 | b40 | c40 | d40 | a41 | b41 | c41 | d41 | a42 | b42 | c42 | d42 | a43 | b43 | c43 | d43 | a44 | b44 | c44 | d44 | a45 | b45 | c45 | d45 | a46 | b46 | c46 | d46 | a47 | b47 | c47 | d47 | a48 | b48 | c48 | d48 | a49 | b49 | c49 | d49 | a50 | b50 | c50 | d50 | a51 | b51 | c51 | d51 | a52 | b52 | c52 | d52 | a53 | b53 | c53 | d53 | a54 | b54 | c54 | d54 | a55 | b55 | c55 | d55 | a56 | b56 | c56 | d56 | a57 | b57 | c57 | d57 | a58 | b58 | c58 | d58 | a59 | b59 | c59 | d59 | a60 | b60 | c60 | d60 | a61 | b61 | c61 | d61 | a62 | i62 | b62 | c62 | d62 | a63 | i63 | b63 | c63 | d63 | a64 | i64 | b64 | c64 | d64 | a65 | i65 | b65 | c65 | d65 | a66 | b66 | c66 | d66 | a67 | b67 | c67 | d67 | a68 | i68 | b68 | c68 | d68 | a69 | b69 | c69 | d69 | a70 | b70 | c70 | d70 | a71 | b71 | c71 | d71 | a72 | b72 | c72 | d72 | a_law | l_law | c_law | k_law | z_isinstance | z_int | z_bool | z_len | z_range | z_sorted | z_set | z_list | z_str | z_all | z_reversed | z_enumerate | z_sum | z_max | z_min | z_zip | v_MOST_SETS | v_MOST_LETTERS | v_MOST_NAMES | v_NO_SETS | v_NO_NAMES | v_MOST_WEIGHT | v_MOST_VOTERS | v_MOST_KEPT=>k_is)
   (case nW | eW1 | eW2 | eW3 | eW4 | eW5 | eW6 | eW7 | eW8 | eW9 | eW10 | eW11 | eW12 | eW13 | eW14 | eW15=>rfl)
   (case lW1 | lW2 | lW3 | lW4 | lW5 | lW6 | lW7 | lW8 | lW9 | lW10 | lW11 | lW12 | lW13 | lW14 | lW15 | pgD | hdD | poD | saD | nwD | nkD | mkD | kpD=>k_is)
