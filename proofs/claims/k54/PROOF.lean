import PyProof.Rows.All
import Wide.All
import OpenK.AllK
import Wide.FinOn
import Lean
import PyProof.EqAt
import PyProof.EqKinds
import PyProof.TupleCall
import PyProof.CompFree
import PyProof.CollectWalk
import PyProof.Rows.SetFrom
import PyProof.Rows.SortShell
import PySem.Challenge.RW_allhits_k54_whole_votes_by_text
set_option Elab.async false
set_option linter.all false
set_option maxRecDepth 100000
def yaa := @Nat.testBit_and
def yab := @Bool.and_eq_true
def yac := @Nat.eq_of_testBit_eq
def yad := @Nat.testBit_lt_two_pow
def yae := @Nat.lt_of_lt_of_le
def yaf := @Nat.pow_le_pow_right
def yag := @Nat.lt_or_ge
def yah := @Nat.two_pow_pos
def yai := @Nat.testBit_xor
def yaj := @Nat.testBit_two_pow
def yak := @Nat.pow_succ
def yal := @Nat.testBit_zero
def yam := @Nat.mod_two_eq_zero_or_one
def yan := @Nat.testBit_or
def yao := @Nat.lt_two_pow_self
def yap := @Nat.lt_of_le_of_ne
def yaq := @List.reverse_reverse
def yar := @List.foldl_append
def yas := @List.pairwise_append
def yat := @List.filter_congr
def yau := @List.mem_append_left
def yav := @List.mem_append
def yaw := @List.filter_append
def yax := @Bool.eq_iff_iff
def yay := @Bool.not_eq_true'
def yaz := @Nat.le_refl
def yba := @List.mem_filter
def ybb := @List.any_eq_false
def ybc := @List.filter_sublist
def ybd := @List.mem_cons_self
def ybe := @List.pairwise_cons
def ybf := @List.mem_cons
def ybg := @List.mem_cons_of_mem
def ybh := @List.all_eq_true
def ybi := @List.pairwise_lt_range
def ybj := @List.mem_range
def ybk := @Nat.lt_of_le_of_lt
def ybl := @List.any_eq_true
def ybm := @List.foldl_cons
def ybn := @Nat.le_trans
def ybo := @List.length_filter_le
def ybp := @Nat.lt_trans
def ybq := @Nat.testBit_two_pow_self
def ybr := @Nat.or_lt_two_pow
def ybs := @Nat.pow_lt_pow_right
def ybt := @List.mem_reverse
def ybu := @List.mem_map
def ybv := @List.pairwise_reverse
def ybw := @List.pairwise_map
def ybx := @List.length_erase_of_mem
def yby := @List.find?_eq_none
def ybz := @Nat.zero_le
def yca := @List.nodup_cons
def ycb := @List.length_cons
def ycc := @List.nodup_range
def ycd := @List.length_map
def yce := @List.find?_cons
def ycf := @List.filter_cons
def ycg := @List.map_cons
def ych := @List.sum_cons
def yci := @List.map_congr_left
def ycj := @List.getD_eq_getElem?_getD
def yck := @List.getElem?_eq_getElem
def ycl := @List.mem_of_getElem?
def ycm := @List.getElem?_eq_some_iff
def ycn := @List.pairwise_iff_getElem
def yco := @Nat.lt_trichotomy
def ycp := @List.getElem?_map
def ycq := @List.getElem?_range
def ycr := @List.idxOf_lt_length_iff
def ycs := @List.getElem_idxOf
def yct := @Bool.and_eq_true_iff
def ycu := @List.range_add
def ycv := @List.map_append
def ycw := @List.map_map
def ycx := @Nat.le_succ
def ycy := @Nat.lt_succ_self
def ycz := @Bool.or_eq_true
def yda := @List.mem_flatMap
def ydb := @Array.getElem?_toList
def ydc := @Nat.le_of_lt
def ydd := @Array.getElem?_eq_none
def yde := @Nat.eq_zero_or_pos
def ydf := @Array.toList_extract
def ydg := @List.length_drop
def ydh := @Array.length_toList
def ydi := @List.take_length
def ydj := @Array.toList_push
def ydk := @List.append_assoc
def ydl := @List.take_append_drop
def ydm := @List.getElem?_of_mem
def ydn := @List.filterMap_cons
def ydo := @List.mem_filterMap
def ydp := @List.getElem_mem
def ydq := @List.length_append
def ydr := @PySem.Heap.get?_update_self
def yds := @List.range_succ
def ydt := @PySem.Heap.get?_push_size
def ydu := @PySem.Heap.get?_push_of_some
def ydv := @PySem.Heap.lt_size
def ydw := @PySem.Heap.size_push
def ydx := @Nat.ne_of_lt
def ydy := @Nat.lt_succ_of_lt
def ydz := @List.not_mem_nil
def yea := @Nat.ne_of_gt
def yeb := @Nat.lt_of_succ_lt_succ
def yec := @List.length_eq_zero_iff
def yed := @List.append_nil
def yee := @Nat.mod_lt
def yef := @List.length_eraseIdx_of_lt
def yeg := @PySem.Heap.get?_update_other
def yeh := @Nat.le_of_eq
def yei := @List.mem_singleton
def yej := @List.ext_getElem
def yek := @List.getElem?_eq_none
def yel := @Bool.or_false
def yem := @Bool.false_eq_true
def yen := @Nat.lt_irrefl
def yeo := @Array.append_assoc
def yep := @List.getElem_inj
def yeq := @List.getElem?_set_self
def yer := @List.getElem?_set_ne
def yet := @Bool.false_ne_true
def yeu := @Bool.false_and
def yev := @List.mem_append_right
def yew := @Int.natCast_nonneg
def yex := @Int.fdiv_eq_ediv_of_nonneg
def yey := @Array.mem_toList_iff
def yez := @List.of_mem_zip
def yfa := @Option.isSome_iff_exists
def yfb := @List.length_take
def yfc := @List.getElem?_append_right
def yfd := @List.getElem?_replicate
def yfe := @List.getElem?_append_left
def yff := @List.length_replicate
def yfg := @Int.toNat_natCast
def yfh := @List.size_toArray
def yfi := @List.map_nil
def yfj := @List.length_set
def yfk := @List.any_cons
def yfl := @List.replicate_succ
def yfm := @List.flatten_cons
def yfn := @List.length_singleton
def yfo := @Nat.succ_mul
def yfp := @Nat.add_comm
def yfq := @Option.isSome_some
def yfr := @Option.map_some
def yfs := @List.cons_append
def yft := @PySem.F.slot_dict_getitem
def yfu := @List.lookup_cons
def yfv := @List.forIn_cons
def yfw := @Bool.true_and
def yfx := @List.getElem_toArray
def yfy := @Array.toArray_toList
def yfz := @List.map_id
def yga := @List.perm_ext_iff_of_nodup
def ygb := @List.take_eq_take_iff
def ygc := @List.drop_eq_nil_of_le
def ygd := @List.filter_eq_self
def yge := @PySem.Heap.get?_push_ne
def ygf := @Nat.sub_self
def ygg := @List.mem_iff_getElem
def ygh := @List.mem_flatten
def ygi := @List.pairwise_flatten
def ygj := @List.length_reverse
def ygk := @List.length_range
def ygl := @Nat.mul_le_mul_right
def ygm := @List.map_eq_nil_iff
def ygn := @Nat.not_lt_zero
def ygo := @List.idxOf_cons
def ygp := @PySem.F.slot_list_index
def ygq := @List.take_add_one
def ygr := @List.filter_eq_nil_iff
def ygs := @List.map_reverse
def ygt := @List.idxOf_lt_length_of_mem
def ygu := @List.getElem?_cons_succ
def ygv := @List.getElem?_cons_zero
def ygw := @PySem.F.plainAttrs_list
def ygx := @PySem.F.slot_list_append
def ygy := @PySem.F.type_list_append
def ygz := @List.map_take
def yha := @Int.emod_nonneg
def yhb := @Int.toNat_of_nonneg
def yhc := @Int.emod_lt_of_pos
def yhd := @List.map_drop
def yhe := @PySem.F.plainAttrs_str
def yhf := @PySem.F.slot_str_join
def yhg := @PySem.F.type_str_join
def yhh := @PySem.F.slot_str_split
def yhi := @PySem.F.type_str_split
def yhj := @PySem.F.type_list_index
def yhk := @List.drop_eq_getElem_cons
def yhl := @List.find?_append
def yhm := @List.flatten_append
namespace Fam
def sub (b a:Nat):Prop:=a&&&b=b
instance (b a:Nat):Decidable (sub b a):=inferInstanceAs (Decidable (a&&&b=b))
theorem qa6 {b a:Nat}:sub b a↔∀k,b.testBit k=true->a.testBit k=true:=by
 unfold sub;constructor
 .intro h k hk
  rw[<-h,yaa,yab] at hk;exact hk.1
 .intro h
  refine yac λk=>?_;rw[yaa];cases hb:b.testBit k
  .simp
  .simp[h k hb]
theorem sub_refl (a:Nat):sub a a:=Nat.and_self a
theorem qbS {a b c:Nat}(h1:sub a b)(h2:sub b c):sub a c:=qa6.mpr λk hk=>qa6.mp h2 k (qa6.mp h1 k hk)
theorem sub_le {a b:Nat}(h:sub b a):b<=a:=by
 have:a&&&b<=a:=Nat.and_le_left;rw[h] at this;exact this
theorem qgC {a b:Nat}(h1:sub a b)(h2:sub b a):a=b:=Nat.le_antisymm (sub_le h1) (sub_le h2)
def mt (a b:Nat):Prop:=a&&&b≠0
instance (b a:Nat):Decidable (mt b a):=inferInstanceAs (Decidable (b&&&a≠0))
theorem mt_iff {a b:Nat}:mt a b↔∃k,a.testBit k=true/\b.testBit k=true:=by
 unfold mt;constructor
 .intro h
  obtain⟨k,hk⟩:=Nat.exists_testBit_of_ne_zero h;rw[yaa,yab] at hk;exact⟨k,hk⟩
 .rintro⟨k,h1,h2⟩ e
  have:=congrArg (λz=>Nat.testBit z k) e;simp[yaa,h1,h2] at this
theorem qiJ {a b:Nat}:mt a b↔mt b a:=by unfold mt;rw[Nat.and_comm]
theorem qqF {a a' b:Nat}(h:sub a a')(q:mt a b):mt a' b:=by
 obtain⟨k,h1,h2⟩:=mt_iff.mp q;exact mt_iff.mpr ⟨k,qa6.mp h k h1,h2⟩
theorem qg1 {n a k:Nat}(h:a<2^n)(hk:n<=k):a.testBit k=false:=yad (yae h (yaf (by decide) hk))
theorem bit_low {n a k:Nat}(h:a<2^n)(hk:a.testBit k=true):k<n:=by
 rcases yag k n with z | z
 .exact z
 .rw[qg1 h z] at hk;cases hk
def rst (m a:Nat):Nat:=2^m-(a+1)
theorem qgX {m a:Nat}(h:a<2^m)(k:Nat):(rst m a).testBit k=(decide (k<m)&&!a.testBit k):=Nat.testBit_two_pow_sub_succ h k
theorem rst_lt (m a:Nat):rst m a<2^m:=by
 have:=yah m;unfold rst;omega
theorem rst_rst {m a:Nat}(h:a<2^m):rst m (rst m a)=a:=by unfold rst;omega
theorem qg9 {m a b:Nat}(ha:a<2^m)(hb:b<2^m):sub a (rst m b)↔¬mt a b:=by
 rw[qa6,mt_iff];constructor
 .rintro h ⟨k,h1,h2⟩
  have:=h k h1;rw[qgX hb,h2] at this;simp at this
 .intro h k hk
  rw[qgX hb];have hm:=bit_low ha hk;cases hb':b.testBit k
  .simp[hm]
  .exact absurd ⟨k,hk,hb'⟩ h
def qj6 (a k:Nat):Nat:=a-2^k
theorem qi3 {a k:Nat}(h:a.testBit k=true):a=(a ^^^ 2^k)+2^k:=by
 have e:(a ^^^ 2^k)&&&2^k=0:=by
  refine yac λj=>?_;rw[yaa,yai,yaj,Nat.zero_testBit];by_cases c:k=j
  .subst c;simp[h]
  .simp[c]
 have key:∀n x y:Nat,x<2^n->x&&&y=0->x+y=x|||y:=by
  intro n
  induction n with
  | zero =>
   intro x y hx _;have:x=0:=by omega
   subst this;simp
  | succ n ih =>
   intro x y hx h;have q:=ih (x/2) (y/2) (by rw[yak] at hx;omega) (by rw[<-Nat.and_div_two,h]);have e1:(x|||y)/2=x/2|||y/2:=Nat.or_div_two
   have m2:x%2=0\/y%2=0:=by
    have:=congrArg (λz=>Nat.testBit z 0) h;simp only[yaa,yal,Nat.zero_testBit] at this;rcases yam x with z1 | z1<;>rcases yam y with z2 | z2<;>simp[z1,z2] at this⊢
   have m1:(x|||y)%2=x%2+y%2:=by
    have:=yan x y 0;simp only[yal] at this;rcases yam (x|||y) with z | z<;>rcases yam x with z1 | z1<;>rcases yam y with z2 | z2<;>simp[z,z1,z2] at this m2⊢
   rw[<-e1] at q;omega
 have:=key (a ^^^ 2^k) (a ^^^ 2^k) (2^k) yao e;rw[this];refine yac λj=>?_;rw[yan,yai,yaj];by_cases c:k=j
 .subst c;simp[h]
 .simp[c]
theorem qdT {a k:Nat}(h:a.testBit k=true)(j:Nat):(qj6 a k).testBit j=(a.testBit j&&decide (j≠k)):=by
 have e:qj6 a k=a ^^^ 2^k:=by
  have:=qi3 h;unfold qj6;omega
 rw[e,yai,yaj];by_cases c:k=j
 .subst c;simp[h]
 .simp[c,Ne.symm c]
theorem qqh {a k:Nat}(h:a.testBit k=true):qj6 a k<a:=by
 have:=qi3 h;have:=yah k;unfold qj6;omega
theorem qoc {a k:Nat}(h:a.testBit k=true):sub (qj6 a k) a:=qa6.mpr λj hj=>by
 rw[qdT h,yab] at hj;exact hj.1
def pick (P:Nat->Bool)(L:List Nat):List Nat:=L.foldl (λfound a=>if (!(found.any λb=>decide (sub b a))&&P a)=true then found++[a] else found) []
def qfd (P:Nat->Bool)(L:List Nat)(a:Nat):Prop:=P a=true/\∀b∈L,P b=true->sub b a->b=a
instance (P:Nat->Bool)(L:List Nat)(a:Nat):Decidable (qfd P L a):=inferInstanceAs (Decidable (_/\_))
theorem qd5 (P:Nat->Bool)(L:List Nat):∀(n b:Nat),b<=n->b∈L->P b=true->∃c∈L,qfd P L c/\sub c b
 | n,b,hn,hb,hP=>by
  by_cases c:∃d∈L,P d=true/\sub d b/\d≠b
  .obtain⟨d,hd,hPd,hs,hne⟩:=c
   have hlt:d<b:=yap (sub_le hs) hne
   match n with
   | 0=>omega
   | n+1 =>
    obtain⟨e,he,hm,hse⟩:=qd5 P L n d (by omega) hd hPd;exact⟨e,he,hm,qbS hse hs⟩
  .refine⟨b,hb,⟨hP,λd hd hPd hs=>?_⟩,sub_refl b⟩
   by_cases e:d=b
   .exact e
   .exact absurd ⟨d,hd,hPd,hs,e⟩ c
theorem qjC {p:List Nat->Prop}(h0:p [])(h1:∀L a,p L->p (L++[a]))(L:List Nat):p L:=by
 have:∀M:List Nat,p M.reverse:=by
  intro M
  induction M with
  | nil=>exact h0
  | cons a M ih=>rw[List.reverse_cons];exact h1 _ _ ih
 have:=this L.reverse
 rwa [yaq] at this
theorem pick_snoc (P:Nat->Bool)(L:List Nat)(a:Nat):pick P (L++[a])=if (!((pick P L).any λb=>decide (sub b a))&&P a)=true then pick P L++[a] else pick P L:=by
 unfold pick;rw[yar];rfl
theorem qlY (P:Nat->Bool)(L:List Nat)(hL:L.Pairwise (· < ·)):pick P L=L.filter λa=>decide (qfd P L a):=by
 revert hL
 refine qjC (p:=λL=>L.Pairwise (· < ·)->pick P L=L.filter λa=>decide (qfd P L a)) (λ_=>rfl) (λL a ih hL=>?_) L;obtain⟨hL1,_,hlt⟩:=yas.mp hL;have hlt:∀x∈L,x<a:=λx hx=>hlt x hx a (by simp);have ih:=ih hL1
 have e1:L.filter (λx=>decide (qfd P (L++[a]) x))=L.filter λx=>decide (qfd P L x):=by
  refine yat λx hx=>?_;rw[decide_eq_decide];constructor
  .rintro⟨h1,h2⟩
   exact⟨h1,λb hb=>h2 b (yau _ hb)⟩
  .rintro⟨h1,h2⟩
   refine⟨h1,λb hb hP hs=>?_⟩;rcases yav.mp hb with z | z
   .exact h2 b z hP hs
   .have:b=a:=by simpa using z
    subst this;have:=sub_le hs;have:=hlt x hx;omega
 rw[pick_snoc,yaw,e1,<-ih]
 have key:(!((pick P L).any λb=>decide (sub b a))&&P a)=decide (qfd P (L++[a]) a):=by
  rw[yax,yab,yay,decide_eq_true_eq];constructor
  .rintro⟨h1,h2⟩
   refine⟨h2,λb hb hP hs=>?_⟩;rcases yav.mp hb with z | z
   .exfalso
    obtain⟨c,hc,hm,hsc⟩:=qd5 P L b b (yaz _) z hP;have hin:c∈pick P L:=by rw[ih];exact yba.mpr ⟨hc,decide_eq_true hm⟩
    have:=ybb.mp h1 c hin;exact this (decide_eq_true (qbS hsc hs))
   .simpa using z
  .rintro⟨h1,h2⟩
   refine⟨?_,h1⟩;rw[ybb];intro c hc hd;rw[ih] at hc;obtain⟨c1,c2⟩:=yba.mp hc;have:=h2 c (yau _ c1) (of_decide_eq_true c2).1 (of_decide_eq_true hd);have:=hlt c c1;omega
 rw[key];by_cases c:qfd P (L++[a]) a
 .rw[if_pos (decide_eq_true c)]
  simp[c]
 .rw[if_neg (by simpa using c)]
  simp[c]
theorem qe1 {P:Nat->Bool}{L:List Nat}(hL:L.Pairwise (· < ·)){a:Nat}:a∈pick P L↔a∈L/\qfd P L a:=by
 rw[qlY P L hL,yba,decide_eq_true_eq]
theorem qfr {P:Nat->Bool}{L:List Nat}(hL:L.Pairwise (· < ·)):(pick P L).Pairwise (· < ·):=by
 rw[qlY P L hL];exact hL.sublist ybc
theorem pick_len (P:Nat->Bool)(L:List Nat):(pick P L).length<=L.length:=by
 refine qjC (p:=λL=>(pick P L).length<=L.length) (yaz _) (λL a ih=>?_) L;rw[pick_snoc];split
 .simp;exact ih
 .simp;omega
theorem rise_ext:∀{a b:List Nat},a.Pairwise (· < ·)->b.Pairwise (· < ·)->(∀x,x∈a↔x∈b)->a=b
 | [],[],_,_,_=>rfl
 | [],y::b,_,_,h=>absurd ((h y).mpr ybd) (by simp)
 | x::a,[],_,_,h=>absurd ((h x).mp ybd) (by simp)
 | x::a,y::b,ha,hb,h=>by
  obtain⟨a1,a2⟩:=ybe.mp ha;obtain⟨b1,b2⟩:=ybe.mp hb
  have e:x=y:=by
   rcases ybf.mp ((h x).mp ybd) with z | z
   .exact z
   .rcases ybf.mp ((h y).mpr ybd) with q | q
    .exact q.symm
    .have:=b1 x z
     have:=a1 y q;omega
  subst e;congr 1;refine rise_ext a2 b2 λz=>?_;constructor
  .intro hz
   rcases ybf.mp ((h z).mp (ybg _ hz)) with q | q
   .have:=a1 z hz;omega
   .exact q
  .intro hz
   rcases ybf.mp ((h z).mpr (ybg _ hz)) with q | q
   .have:=b1 z hz;omega
   .exact q
def hitP (fs:List Nat)(a:Nat):Bool:=fs.all λb=>decide (mt a b)
theorem hitP_iff {fs:List Nat}{a:Nat}:hitP fs a=true↔∀b∈fs,mt a b:=by
 unfold hitP;rw[ybh];simp only[decide_eq_true_eq]
theorem qmf {fs:List Nat}{a b:Nat}(h:sub b a)(q:hitP fs b=true):hitP fs a=true:=hitP_iff.mpr λc hc=>qqF h (hitP_iff.mp q c hc)
def hits (m:Nat)(fs:List Nat):List Nat:=pick (hitP fs) (List.range (2^m))
theorem qb0 {m:Nat}{fs:List Nat}{a:Nat}:a∈hits m fs↔a<2^m/\hitP fs a=true/\∀b,b<2^m->hitP fs b=true->sub b a->b=a:=by
 unfold hits;rw[qe1 ybi,ybj];unfold qfd;simp only[ybj]
theorem hits_rise (m:Nat)(fs:List Nat):(hits m fs).Pairwise (· < ·):=qfr ybi
theorem qgi {m:Nat}{fs:List Nat}{a:Nat}(ha:a<2^m)(h:hitP fs a=true):∃c∈hits m fs,sub c a:=by
 obtain⟨c,hc,hm,hs⟩:=qd5 (hitP fs) (List.range (2^m)) a a (yaz _) (ybj.mpr ha) h;exact⟨c,(qe1 ybi).mpr ⟨hc,hm⟩,hs⟩
theorem sub_lt {m a b:Nat}(h:sub b a)(ha:a<2^m):b<2^m:=ybk (sub_le h) ha
def mins (L:List Nat):List Nat:=pick (λ_=>true) L
theorem mem_mins {L:List Nat}(hL:L.Pairwise (· < ·)){a:Nat}:a∈mins L↔a∈L/\∀b∈L,sub b a->b=a:=by
 unfold mins;rw[qe1 hL];unfold qfd;simp
theorem qkc {L:List Nat}(hL:L.Pairwise (· < ·)){b:Nat}(hb:b∈L):∃c∈mins L,sub c b:=by
 obtain⟨c,hc,hm,hs⟩:=qd5 (λ_=>true) L b b (yaz _) hb rfl;exact⟨c,(qe1 hL).mpr ⟨hc,hm⟩,hs⟩
theorem qmQ {m:Nat}{fs:List Nat}(hr:fs.Pairwise (· < ·))(hb:∀b∈fs,b<2^m):hits m (hits m fs)=mins fs:=by
 refine rise_ext (hits_rise _ _) (qfr hr) λa=>?_;rw[mem_mins hr]
 -- each set of the family meets all hits
 have meet:∀f∈fs,hitP (hits m fs) f=true:=λf hf=>hitP_iff.mpr λh hh=>qiJ.mp (hitP_iff.mp (qb0.mp hh).2.1 f hf)
 -- what meets all hits holds a set of the family
 have hold:∀t,t<2^m->hitP (hits m fs) t=true->∃f∈fs,sub f t:=λt ht hp=>by
  apply Classical.byContradiction;intro hn
  have:hitP fs (rst m t)=true:=hitP_iff.mpr λf hf=>by
   apply Classical.byContradiction;intro hm;have hs:sub f (rst m (rst m t)):=(qg9 (hb f hf) (rst_lt m t)).mpr λz=>hm (qiJ.mp z);rw[rst_rst ht] at hs;exact hn ⟨f,hf,hs⟩
  obtain⟨c,hc,hs⟩:=qgi (rst_lt m t) this;exact(qg9 (sub_lt hs (rst_lt m t)) ht).mp hs (qiJ.mp (hitP_iff.mp hp c hc))
 constructor
 .intro ha
  obtain⟨h1,h2,h3⟩:=qb0.mp ha;obtain⟨f,hf,hs⟩:=hold a h1 h2;have e:=h3 f (hb f hf) (meet f hf) hs;subst e;refine⟨hf,λb hbm hsb=>h3 b (hb b hbm) (meet b hbm) hsb⟩
 .rintro⟨ha,hmin⟩
  refine qb0.mpr ⟨hb a ha,meet a ha,λb hbl hp hs=>?_⟩;obtain⟨f,hf,hsf⟩:=hold b hbl hp;have e:=hmin f hf (qbS hsf hs);subst e;exact qgC hs hsf
end Fam
namespace Fam
def qiZ (L:List Nat)(a:Nat):Prop:=∀b∈L,sub a b->b=a
instance (L:List Nat)(a:Nat):Decidable (qiZ L a):=inferInstanceAs (Decidable (∀b∈L,_))
theorem qip (L:List Nat)(M:Nat)(hM:∀x∈L,x<M):∀(n b:Nat),M<=b+n->b∈L->∃c∈L,qiZ L c/\sub b c
 | n,b,hn,hb=>by
  by_cases c:∃d∈L,sub b d/\d≠b
  .obtain⟨d,hd,hs,hne⟩:=c
   have hlt:b<d:=yap (sub_le hs) (Ne.symm hne)
   match n with
   | 0=>have:=hM b hb;omega
   | n+1 =>
    obtain⟨e,he,hm,hse⟩:=qip L M hM n d (by omega) hd;exact⟨e,he,hm,qbS hs hse⟩
  .refine⟨b,hb,λd hd hs=>?_,sub_refl b⟩
   by_cases e:d=b
   .exact e
   .exact absurd ⟨d,hd,hs,e⟩ c
def sayP (fs:List Nat)(a:Nat):Bool:=fs.any λb=>decide (sub b a)
theorem sayP_iff {fs:List Nat}{a:Nat}:sayP fs a=true↔∃b∈fs,sub b a:=by
 unfold sayP;rw[ybl];simp only[decide_eq_true_eq]
theorem qmI {fs:List Nat}{a b:Nat}(h:sub b a)(q:sayP fs b=true):sayP fs a=true:=by
 obtain⟨c,hc,hs⟩:=sayP_iff.mp q;exact sayP_iff.mpr ⟨c,hc,qbS hs h⟩
theorem say_mins {fs:List Nat}(hr:fs.Pairwise (· < ·))(a:Nat):sayP (mins fs) a=sayP fs a:=by
 rw[yax,sayP_iff,sayP_iff];constructor
 .rintro⟨b,hb,hs⟩
  exact⟨b,((mem_mins hr).mp hb).1,hs⟩
 .rintro⟨b,hb,hs⟩
  obtain⟨c,hc,hs'⟩:=qkc hr hb;exact⟨c,hc,qbS hs' hs⟩
def nms (n a:Nat):List Nat:=(List.range n).filter λk=>a.testBit k
theorem mem_nms {n a k:Nat}:k∈nms n a↔k<n/\a.testBit k=true:=by
 unfold nms;rw[yba,ybj]
theorem nms_rise (n a:Nat):(nms n a).Pairwise (· < ·):=ybi.sublist ybc
def ofN (L:List Nat):Nat:=L.foldl (λz k=>z|||2^k) 0
theorem qjf (L:List Nat)(j:Nat):(ofN L).testBit j=decide (j∈L):=by
 have key:∀(L:List Nat) (z:Nat),(L.foldl (λz k=>z|||2^k) z).testBit j=(z.testBit j||decide (j∈L)):=λL=>by
  induction L with
  | nil=>intro z;simp
  | cons k L ih =>
   intro z;rw[ybm,ih,yan,yaj,Bool.or_assoc];congr 1;by_cases c:k=j
   .subst c;simp
   .simp[c,Ne.symm c]
 unfold ofN;rw[key];simp
theorem qrU {L:List Nat}{n:Nat}(h:∀k∈L,k<n):ofN L<2^n:=by
 refine Nat.lt_pow_two_of_testBit _ λk hk=>?_;rw[qjf,decide_eq_false_iff_not];intro z;have:=h k z;omega
theorem ofN_nms {n a:Nat}(h:a<2^n):ofN (nms n a)=a:=by
 refine yac λj=>?_;rw[qjf];cases hb:a.testBit j with
 | true=>exact decide_eq_true (mem_nms.mpr ⟨bit_low h hb,hb⟩)
 | false=>exact decide_eq_false λz=>by rw[(mem_nms.mp z).2] at hb;cases hb
def pc (n a:Nat):Nat:=(nms n a).length
end Fam
namespace Fam
def Up (m:Nat)(f:Nat->Bool):Prop:=∀a b,a<2^m->sub b a->f b=true->f a=true
theorem up_say (m:Nat)(fs:List Nat):Up m (sayP fs):=λa b _ h q=>qmI h q
def yes (m:Nat)(f:Nat->Bool):List Nat:=(List.range (2^m)).filter f
theorem yes_rise (m:Nat)(f:Nat->Bool):(yes m f).Pairwise (· < ·):=ybi.sublist ybc
theorem mem_yes {m:Nat}{f:Nat->Bool}{a:Nat}:a∈yes m f↔a<2^m/\f a=true:=by
 unfold yes;rw[yba,ybj]
theorem yes_len (m:Nat)(f:Nat->Bool):(yes m f).length<=2^m:=ybn (ybo _ _) (by simp)
theorem say_yes {m:Nat}{f:Nat->Bool}(u:Up m f){a:Nat}(ha:a<2^m):sayP (yes m f) a=f a:=by
 rw[yax,sayP_iff];constructor
 .rintro⟨b,hb,s⟩
  exact u a b ha s (mem_yes.mp hb).2
 .intro h
  exact⟨a,mem_yes.mpr ⟨ha,h⟩,sub_refl a⟩
theorem qje {m:Nat}{f:Nat->Bool}(u:Up m f){a:Nat}(ha:a<2^m):sayP (mins (yes m f)) a=f a:=by
 rw[say_mins (yes_rise m f),say_yes u ha]
theorem qqY {m:Nat}{f:Nat->Bool}{a:Nat}(h:a∈mins (yes m f)):a<2^m/\f a=true/\∀k,a.testBit k=true->f (qj6 a k)=false:=by
 obtain⟨h1,h2⟩:=(mem_mins (yes_rise m f)).mp h;obtain⟨h3,h4⟩:=mem_yes.mp h1;refine⟨h3,h4,λk hk=>?_⟩;cases e:f (qj6 a k) with
 | false=>rfl
 | true =>
  have l:=qqh hk;have:=h2 _ (mem_yes.mpr ⟨ybp l h3,e⟩) (qoc hk);omega
def qjB (a k:Nat):Nat:=a+2^k
theorem ql6 {a k:Nat}(h:a.testBit k=false):qjB a k=a|||2^k:=by
 have hb:(a|||2^k).testBit k=true:=by simp[yan,ybq]
 have e:=qi3 hb
 have e2:(a|||2^k) ^^^ 2^k=a:=by
  apply yac;intro j;rw[yai,yan];rcases Nat.decEq k j with z | z
  .rw[Nat.testBit_two_pow_of_ne z]
   simp
  .subst z
   rw[ybq,h];rfl
 rw[e2] at e;unfold qjB;omega
theorem qqu {m a k:Nat}(h:a.testBit k=false)(ha:a<2^m)(hk:k<m):qjB a k<2^m:=by
 rw[ql6 h];exact ybr ha (ybs (by decide) hk)
theorem qsL (a b:Nat):sub a (a|||b):=qa6.mpr λk hk=>by simp[yan,hk]
theorem qon {a k:Nat}(h:a.testBit k=false):sub a (qjB a k):=by
 rw[ql6 h];exact qsL _ _
def qro (L:List Nat):List Nat:=L.filter λa=>decide (qiZ L a)
theorem qe0 {L:List Nat}{a:Nat}:a∈qro L↔a∈L/\qiZ L a:=by
 unfold qro;rw[yba,decide_eq_true_eq]
theorem qpl {m:Nat}{f:Nat->Bool}{a:Nat}(h:a∈qro (yes m λs=>!f s)):a<2^m/\f a=false/\∀k,k<m->a.testBit k=false->f (qjB a k)=true:=by
 obtain⟨h1,h2⟩:=qe0.mp h;obtain⟨h3,h4⟩:=mem_yes.mp h1;refine⟨h3,by simpa using h4,λk hm hk=>?_⟩;cases e:f (qjB a k) with
 | true=>rfl
 | false =>
  have:=h2 _ (mem_yes.mpr ⟨qqu hk h3 hm,by simp[e]⟩) (qon hk);unfold qjB at this;have:=yah k;omega
def heldP (fs:List Nat)(a:Nat):Bool:=fs.any λb=>decide (sub a b)
theorem heldP_iff {fs:List Nat}{a:Nat}:heldP fs a=true↔∃b∈fs,sub a b:=by
 unfold heldP;rw[ybl];simp only[decide_eq_true_eq]
theorem qp9 {m:Nat}{f:Nat->Bool}(u:Up m f){a:Nat}(ha:a<2^m):heldP (qro (yes m λs=>!f s)) a = !f a:=by
 rw[yax,heldP_iff];constructor
 .rintro⟨b,hb,s⟩
  obtain⟨h1,h2,_⟩:=qpl hb;cases e:f a with
  | false=>rfl
  | true=>rw[u b a h1 s e] at h2;cases h2
 .intro h
  obtain⟨c,hc,hm,s⟩:=qip (yes m λs=>!f s) (2^m) (λx hx=>(mem_yes.mp hx).1) (2^m) a (by omega) (mem_yes.mpr ⟨ha,h⟩);exact⟨c,qe0.mpr ⟨hc,hm⟩,s⟩
theorem qle {L:List Nat}(h:L.Pairwise (· < ·)):(qro L).Pairwise (· < ·):=h.sublist ybc
theorem qnx {m:Nat}{fs:List Nat}{a:Nat}(ha:a<2^m):sayP (hits m fs) a=hitP fs a:=by
 rw[yax,sayP_iff];constructor
 .rintro⟨b,hb,s⟩
  exact qmf s (qb0.mp hb).2.1
 .intro h
  exact qgi ha h
end Fam
namespace Fam
def rsts (m:Nat)(fs:List Nat):List Nat:=(fs.map (rst m)).reverse
theorem qd7 {m:Nat}{fs:List Nat}{a:Nat}:a∈rsts m fs↔∃b∈fs,rst m b=a:=by
 unfold rsts;rw[ybt,ybu]
theorem qlD {m:Nat}{fs:List Nat}(hr:fs.Pairwise (· < ·))(hb:∀b∈fs,b<2^m):(rsts m fs).Pairwise (· < ·):=by
 unfold rsts;rw[ybv,ybw];refine List.Pairwise.imp_of_mem (λ{a b} ha hb2 h=>?_) hr;have:=hb a ha;have:=hb b hb2;unfold rst;omega
theorem rsts_lt {m:Nat}{fs:List Nat}:∀b∈rsts m fs,b<2^m:=λb hb=>by
 obtain⟨a,_,rfl⟩:=qd7.mp hb;exact rst_lt m a
theorem mins_rise {L:List Nat}(h:L.Pairwise (· < ·)):(mins L).Pairwise (· < ·):=qfr h
theorem hits_lt {m:Nat}{fs:List Nat}:∀b∈hits m fs,b<2^m:=λb hb=>(qb0.mp hb).1
theorem qkZ {m:Nat}{fs:List Nat}:∀a∈hits m fs,∀b∈hits m fs,sub b a->b=a:=λa ha b hb s=>(qb0.mp ha).2.2 b (qb0.mp hb).1 (qb0.mp hb).2.1 s
theorem qn3 {m:Nat}{fs:List Nat}(hr:fs.Pairwise (· < ·))(hb:∀b∈fs,b<2^m){a:Nat}(ha:a<2^m):hitP (hits m fs) a=sayP fs a:=by
 rw[<-qnx ha,qmQ hr hb,say_mins hr]
theorem qiy {m a b:Nat}(ha:a<2^m)(hb:b<2^m)(h:sub (rst m a) (rst m b)):sub b a:=by
 refine qa6.mpr λk hk=>?_;have km:=bit_low hb hk;cases e:a.testBit k with
 | true=>rfl
 | false =>
  have:=qa6.mp h k (by rw[qgX ha,e];simp[km]);rw[qgX hb,hk] at this;simp at this
theorem held_rests {m:Nat}{fs:List Nat}(hr:fs.Pairwise (· < ·))(hb:∀b∈fs,b<2^m){a:Nat}(ha:a<2^m):heldP (rsts m (hits m fs)) a = !sayP fs a:=by
 rw[<-qn3 hr hb ha];rw[yax,heldP_iff];constructor
 .rintro⟨b,hbm,s⟩
  obtain⟨c,hc,rfl⟩:=qd7.mp hbm;have:=(qg9 ha (hits_lt c hc)).mp s;cases e:hitP (hits m fs) a with
  | false=>rfl
  | true=>exact absurd (hitP_iff.mp e c hc) this
 .intro h
  have hn:¬∀c∈hits m fs,mt a c:=λz=>by rw[hitP_iff.mpr z] at h;cases h
  obtain⟨c,hc,hmc⟩:∃c∈hits m fs,¬mt a c:=by
   apply Classical.byContradiction;intro z;exact hn λc hc=>Classical.byContradiction λy=>z ⟨c,hc,y⟩
  exact⟨_,qd7.mpr ⟨c,hc,rfl⟩,(qg9 ha (hits_lt c hc)).mpr hmc⟩
theorem ql9 {m:Nat}{fs:List Nat}(hb:∀b∈fs,b<2^m)(q:∀a∈fs,∀b∈fs,sub b a->b=a):∀a∈rsts m fs,∀b∈rsts m fs,sub b a->b=a:=by
 intro a ha b hbm s;obtain⟨c,hc,rfl⟩:=qd7.mp ha;obtain⟨d,hd,rfl⟩:=qd7.mp hbm;rw[q d hd c hc (qiy (hb d hd) (hb c hc) s)]
theorem qok {m:Nat}{A B:List Nat}(r1:A.Pairwise (· < ·))(r2:B.Pairwise (· < ·))(b1:∀a∈A,a<2^m)(b2:∀a∈B,a<2^m)(m1:∀a∈A,qiZ A a)(m2:∀a∈B,qiZ B a)(h:∀a,a<2^m->heldP A a=heldP B a):A=B:=by
 have key:∀{A B:List Nat},(∀a∈A,a<2^m)->(∀a∈B,a<2^m)->(∀a∈A,qiZ A a)->(∀a,a<2^m->heldP A a=heldP B a)->∀a∈A,a∈B:=by
  intro A B b1 b2 m1 h a ha;have h1:heldP A a=true:=heldP_iff.mpr ⟨a,ha,sub_refl a⟩;rw[h a (b1 a ha)] at h1;obtain⟨b,hb,s⟩:=heldP_iff.mp h1;have h2:heldP B b=true:=heldP_iff.mpr ⟨b,hb,sub_refl b⟩;rw[<-h b (b2 b hb)] at h2;obtain⟨c,hc,s2⟩:=heldP_iff.mp h2;have:=m1 a ha c hc (qbS s s2);rw[this] at s2;rw[qgC s s2];exact hb
 exact rise_ext r1 r2 λx=>⟨key b1 b2 m1 h x,key b2 b1 m2 (λa ha=>(h a ha).symm) x⟩
theorem qtQ {m:Nat}{f:Nat->Bool}(u:Up m f):rsts m (hits m (mins (yes m f)))=qro (yes m λs=>!f s):=by
 have r:=mins_rise (yes_rise m f);have hb:∀a∈mins (yes m f),a<2^m:=λa ha=>(qqY ha).1;refine qok (m:=m) (qlD (hits_rise m _) hits_lt) (qle (yes_rise m _)) rsts_lt (λa ha=>(qpl ha).1) (λa ha b hb2 s=>?_) (λa ha b hb2 s=>?_) λa ha=>?_
 .exact(ql9 hits_lt qkZ b hb2 a ha s).symm
 .exact(qe0.mp ha).2 b (qe0.mp hb2).1 s
 .rw[held_rests r hb ha,qp9 u ha,qje u ha]
end Fam
namespace Fam
end Fam
namespace Fam
theorem nodup_le:∀(n:Nat) (L:List Nat),L.Nodup->(∀x∈L,x<n)->L.length<=n
 | 0,L,_,h=>by
  cases L with
  | nil=>exact yaz _
  | cons a r=>exact absurd (h a (by simp)) (by omega)
 | n+1,L,hn,h=>by
  by_cases hm:n∈L
  .have h1:=nodup_le n (L.erase n) (hn.erase n) λx hx=>by
    obtain⟨h2,h3⟩:=hn.mem_erase_iff.mp hx;have:=h x h3;omega
   rw[ybx hm] at h1;omega
  .have:=nodup_le n L hn λx hx=>by
    have:=h x hx;have:x≠n:=λz=>hm (z▸hx);omega
   omega
end Fam
namespace Fam
def clr (a k:Nat):Nat:=if a.testBit k=true then qj6 a k else a
theorem qfR (a k j:Nat):(clr a k).testBit j=(a.testBit j&&decide (j≠k)):=by
 unfold clr;by_cases h:a.testBit k=true
 .rw[if_pos h,qdT h]
 .rw[if_neg h]
  by_cases e:j=k
  .subst e
   simp at h;simp[h]
  .simp[e]
theorem qse (a k:Nat):clr a k<=a:=by
 unfold clr qj6;split
 .exact Nat.sub_le _ _
 .exact yaz _
theorem or_bit (a k j:Nat):(a|||2^k).testBit j=(a.testBit j||decide (k=j)):=by
 rw[yan,yaj]
theorem mins_sub {L:List Nat}(h:L.Pairwise (· < ·)):∀a∈mins L,a∈L:=λa ha=>((mem_mins h).mp ha).1
end Fam
namespace Fam
theorem qnf {m a k:Nat}(ha:a<2^m)(hk:k<m):a|||2^k<2^m:=ybr ha (ybs (by decide) hk)
end Fam
namespace Fam
def partP (f:Nat->Bool)(x y s:Nat):Bool:=!s.testBit x&&!s.testBit y&&(f (s|||2^x)&&!f (s|||2^y))
def part (m:Nat)(f:Nat->Bool)(x y:Nat):Option Nat:=(List.range (2^m)).find? (partP f x y)
def trn (m:Nat)(f:Nat->Bool)(k:Nat):Nat:=((List.range (2^m)).filter λs=>!f s&&f (s|||2^k)).length
def trns (m:Nat)(f:Nat->Bool):List Nat:=(List.range m).map (trn m f)
theorem qff {f:Nat->Bool}{x y s:Nat}:partP f x y s=true↔s.testBit x=false/\s.testBit y=false/\f (s|||2^x)=true/\f (s|||2^y)=false:=by
 unfold partP;cases s.testBit x<;>cases s.testBit y<;>cases f (s|||2^x)<;>cases f (s|||2^y)<;>simp
theorem qbn {m:Nat}{f:Nat->Bool}{x y:Nat}:part m f x y=none↔∀s,s<2^m->s.testBit x=false->s.testBit y=false->f (s|||2^x)=true->f (s|||2^y)=true:=by
 unfold part;rw[yby];constructor
 .intro h s hs h1 h2 h3
  have:=h s (ybj.mpr hs);rw[qff] at this;cases e:f (s|||2^y) with
  | true=>rfl
  | false=>exact absurd ⟨h1,h2,h3,e⟩ this
 .intro h s hs hp
  obtain⟨h1,h2,h3,h4⟩:=qff.mp hp;rw[h s (ybj.mp hs) h1 h2 h3] at h4;cases h4
theorem part_some {m:Nat}{f:Nat->Bool}{x y s:Nat}(h:part m f x y=some s):s<2^m/\s.testBit x=false/\s.testBit y=false/\f (s|||2^x)=true/\f (s|||2^y)=false :=
 ⟨ybj.mp (List.mem_of_find?_eq_some h),qff.mp (List.find?_some h)⟩
theorem len_sub:∀(A B:List Nat),A.Nodup->(∀x∈A,x∈B)->A.length<=B.length
 | [],_,_,_=>ybz _
 | a::A,B,hn,hs=>by
  have hn':=yca.mp hn;have ha:=hs a ybd;have:=len_sub A (B.erase a) hn'.2 λx hx=>(List.mem_erase_of_ne (λz:x=a=>hn'.1 (z▸hx))).mpr (hs x (ybg _ hx));rw[ybx ha] at this;have:=List.length_pos_of_mem ha;simp only[ycb];omega
theorem qhz {A:List Nat}{g:Nat->Nat}(hn:A.Nodup)(hi:∀a∈A,∀b∈A,g a=g b->a=b):(A.map g).Nodup:=by
 unfold List.Nodup;rw[ybw];exact List.Pairwise.imp_of_mem (λ{a b} ha hb hne e=>hne (hi a ha b hb e)) hn
theorem qpt {n:Nat}{c d:Nat->Bool}(g:Nat->Nat)(h:∀s,s<n->c s=true->g s<n/\d (g s)=true)(hi:∀s t,s<n->t<n->c s=true->c t=true->g s=g t->s=t):((List.range n).filter c).length<=((List.range n).filter d).length:=by
 have nd:((List.range n).filter c).Nodup:=ycc.sublist ybc
 have:=len_sub (((List.range n).filter c).map g) ((List.range n).filter d) (qhz nd λa ha b hb e=>by
  rw[yba,ybj] at ha hb
  exact hi a b ha.1 hb.1 ha.2 hb.2 e) λx hx=>by
   obtain⟨s,hs,rfl⟩:=ybu.mp hx;rw[yba,ybj] at hs⊢;exact h s hs.1 hs.2
 rwa [ycd] at this
theorem qrE {n:Nat}{c d:Nat->Bool}(g:Nat->Nat)(z:Nat)(hz:z<n)(dz:d z=true)(h:∀s,s<n->c s=true->g s<n/\d (g s)=true/\g s≠z)(hi:∀s t,s<n->t<n->c s=true->c t=true->g s=g t->s=t):((List.range n).filter c).length<((List.range n).filter d).length:=by
 have nd:((List.range n).filter c).Nodup:=ycc.sublist ybc
 have nm:=qhz nd (g:=g) λa ha b hb e=>by
  rw[yba,ybj] at ha hb;exact hi a b ha.1 hb.1 ha.2 hb.2 e
 have:=len_sub (z::((List.range n).filter c).map g) ((List.range n).filter d) (yca.mpr ⟨λhx=>by
  obtain⟨s,hs,e⟩:=ybu.mp hx;rw[yba,ybj] at hs
  exact(h s hs.1 hs.2).2.2 e,nm⟩) λx hx=>by
   rcases ybf.mp hx with rfl | hx
   .rw[yba,ybj];exact⟨hz,dz⟩
   obtain⟨s,hs,rfl⟩:=ybu.mp hx;rw[yba,ybj] at hs⊢;exact⟨(h s hs.1 hs.2).1,(h s hs.1 hs.2).2.1⟩
 simp only[ycb,ycd] at this;omega
def swp (x y s:Nat):Nat:=if s.testBit x=true then clr s x|||2^y else s
theorem qi8 {x y s:Nat}(hx:s.testBit x=true)(j:Nat):(swp x y s).testBit j=((s.testBit j&&decide (j≠x))||decide (y=j)):=by
 unfold swp;rw[if_pos hx,or_bit,qfR]
theorem qcf {s x:Nat}(f:Nat->Bool)(h1:f s=false)(h2:f (s|||2^x)=true):s.testBit x=false:=by
 cases e:s.testBit x with
 | false=>rfl
 | true =>
  have:s|||2^x=s:=yac λi=>by
   rw[or_bit];by_cases c:x=i
   .subst c;simp[e]
   .simp[c]
  rw[this,h1] at h2;cases h2
theorem qjN {m:Nat}{f:Nat->Bool}{x y:Nat}(hxy:x≠y)(hx:x<m)(hy:y<m)(h:part m f y x=none){s:Nat}(hs:s<2^m)(h1:f s=false)(h2:f (s|||2^y)=true):swp x y s<2^m/\f (swp x y s)=false/\f (swp x y s|||2^x)=true:=by
 have by':=qcf f h1 h2
 cases bx:s.testBit x with
 | false =>
  have e:swp x y s=s:=by unfold swp;rw[if_neg (by rw[bx];decide)]
  rw[e];exact⟨hs,h1,qbn.mp h s hs by' bx h2⟩
 | true =>
  have c1:(clr s x).testBit x=false:=by rw[qfR];simp
  have c2:(clr s x).testBit y=false:=by rw[qfR,by'];rfl
  have cl:clr s x<2^m:=ybk (qse s x) hs;have e:swp x y s=clr s x|||2^y:=by unfold swp;rw[if_pos bx]
  have e2:clr s x|||2^x=s:=yac λi=>by
   rw[or_bit,qfR];by_cases c:x=i
   .subst c;simp[bx]
   .simp[c,Ne.symm c]
  have e3:(clr s x|||2^y)|||2^x=s|||2^y:=yac λi=>by
   rw[or_bit,or_bit,qfR,or_bit];by_cases c:x=i
   .subst c;simp[bx]
   .simp[c,Ne.symm c]
  rw[e];refine⟨ybr cl (ybs (by decide) hy),?_,by rw[e3];exact h2⟩;cases z:f (clr s x|||2^y) with
  | false=>rfl
  | true =>
   have:=qbn.mp h (clr s x) cl c2 c1 z;rw[e2,h1] at this;cases this
theorem qlK {x y s t:Nat}(hxy:x≠y)(hs:s.testBit y=false)(ht:t.testBit y=false)(e:swp x y s=swp x y t):s=t:=by
 have fx:∀u:Nat,u.testBit y=false->(swp x y u).testBit y=u.testBit x:=λu hu=>by
  cases bx:u.testBit x with
  | true=>rw[qi8 bx];simp
  | false=>unfold swp;rw[if_neg (by rw[bx];decide),hu]
 have ex:s.testBit x=t.testBit x:=by rw[<-fx s hs,<-fx t ht,e]
 refine yac λj=>?_;by_cases c:j=x
 .rw[c];exact ex
 by_cases d:j=y
 .rw[d,hs,ht]
 have fj:∀u:Nat,(swp x y u).testBit j=u.testBit j:=λu=>by
  cases bx:u.testBit x with
  | true=>rw[qi8 bx];simp[c,Ne.symm d]
  | false=>unfold swp;rw[if_neg (by rw[bx];decide)]
 rw[<-fj s,<-fj t,e]
theorem qbV {f:Nat->Bool}{s k:Nat}:(!f s&&f (s|||2^k))=true↔f s=false/\f (s|||2^k)=true:=by
 cases f s<;>simp
theorem qss {m:Nat}{f:Nat->Bool}{x y:Nat}(hxy:x≠y)(hx:x<m)(hy:y<m)(h:part m f y x=none):trn m f y<=trn m f x:=by
 refine qpt (swp x y) (λs hs hc=>?_) λs t hs ht c1 c2 e=>?_
 .obtain⟨h1,h2⟩:=qbV.mp hc
  obtain⟨g1,g2,g3⟩:=qjN hxy hx hy h hs h1 h2;exact⟨g1,qbV.mpr ⟨g2,g3⟩⟩
 .obtain⟨h1,h2⟩:=qbV.mp c1
  obtain⟨g1,g2⟩:=qbV.mp c2;exact qlK hxy (qcf f h1 h2) (qcf f g1 g2) e
theorem qrQ {m:Nat}{f:Nat->Bool}{x y z:Nat}(u:Up m f)(hxy:x≠y)(hx:x<m)(hy:y<m)(h:part m f y x=none)(hz:part m f x y=some z):trn m f y<trn m f x:=by
 obtain⟨z0,zx,zy,z1,z2⟩:=part_some hz;have pz:z|||2^y<2^m:=ybr z0 (ybs (by decide) hy)
 refine qrE (swp x y) (z|||2^y) pz (qbV.mpr ⟨z2,?_⟩) (λs hs hc=>?_) λs t hs ht c1 c2 e=>?_
 .refine u _ (z|||2^x) (ybr pz (ybs (by decide) hx)) (qa6.mpr λk hk=>?_) z1
  rw[or_bit] at hk;rw[or_bit,or_bit];cases e:z.testBit k
  .rw[e] at hk;simpa using .inr (by simpa using hk)
  .simp
 .obtain⟨h1,h2⟩:=qbV.mp hc
  obtain⟨g1,g2,g3⟩:=qjN hxy hx hy h hs h1 h2;refine⟨g1,qbV.mpr ⟨g2,g3⟩,λe=>?_⟩;have by':=qcf f h1 h2
  have bx:s.testBit x=true:=by
   cases bx:s.testBit x with
   | true=>rfl
   | false =>
    have e2:swp x y s=s:=by unfold swp;rw[if_neg (by rw[bx];decide)]
    rw[e2] at e;have:=congrArg (λw=>Nat.testBit w y) e;simp only[by',or_bit,decide_true,Bool.or_true] at this;cases this
  have es:s=z|||2^x:=yac λj=>by
   have:=congrArg (λw=>Nat.testBit w j) e;simp only[qi8 bx,or_bit] at this;rw[or_bit];by_cases c:x=j
   .subst c;simp[bx]
   by_cases d:y=j
   .subst d;simp[by',zy,c]
   simpa[c,d,Ne.symm c] using this
  rw[es,z1] at h1;cases h1
 .obtain⟨h1,h2⟩:=qbV.mp c1
  obtain⟨g1,g2⟩:=qbV.mp c2;exact qlK hxy (qcf f h1 h2) (qcf f g1 g2) e
theorem part_turns {m:Nat}{f:Nat->Bool}{x y:Nat}(u:Up m f)(hxy:x≠y)(hx:x<m)(hy:y<m)(h:part m f x y=none\/part m f y x=none):(part m f x y=none↔trn m f x<=trn m f y):=by
 constructor
 .intro z
  exact qss (Ne.symm hxy) hy hx z
 .intro z
  cases e:part m f x y with
  | none=>rfl
  | some s =>
   rcases h with h | h
   .rw[e] at h;cases h
   .have:=qrQ u hxy hx hy h e
    omega
theorem qkX {m:Nat}{f g:Nat->Bool}{k:Nat}(hk:k<m)(h:∀s,s<2^m->f s=g s):trn m f k=trn m g k:=by
 unfold trn;congr 1;refine yat λs hs=>?_;have hs:=ybj.mp hs;rw[h s hs,h (s|||2^k) (ybr hs (ybs (by decide) hk))]
theorem part_congr {m:Nat}{f g:Nat->Bool}{x y:Nat}(hx:x<m)(hy:y<m)(h:∀s,s<2^m->f s=g s):part m f x y=part m g x y:=by
 unfold part
 have:∀L:List Nat,(∀s∈L,s<2^m)->L.find? (partP f x y)=L.find? (partP g x y):=λL=>by
  induction L with
  | nil=>intro _;rfl
  | cons s L ih =>
   intro hL;have hs:=hL s ybd
   have e:partP f x y s=partP g x y s:=by
    unfold partP;rw[h _ (ybr hs (ybs (by decide) hx)),h _ (ybr hs (ybs (by decide) hy))]
   rw[yce,yce,e,ih λz hz=>hL z (ybg _ hz)]
 exact this _ λs hs=>ybj.mp hs
end Fam
namespace Fam
def wt (ws:List Nat)(s:Nat):Nat:=((nms 8 s).map λk=>ws.getD k 0).sum
theorem qga (c:Nat->Bool)(g:Nat->Nat):∀L:List Nat,((L.filter c).map g).sum=(L.map λk=>if c k=true then g k else 0).sum
 | []=>rfl
 | a::L=>by
  rw[ycf];cases h:c a<;>simp[h,qga c g L]
theorem qnt (ws:List Nat)(s:Nat):wt ws s=((List.range 8).map λk=>if s.testBit k=true then ws.getD k 0 else 0).sum:=qga _ _ _
theorem qpi {g h:Nat->Nat}:∀{L:List Nat},(∀j∈L,g j<=h j)->(L.map g).sum<=(L.map h).sum
 | [],_=>yaz _
 | a::L,H=>by
  have:=qpi (L:=L) λj hj=>H j (ybg _ hj);have:=H a ybd;simp only[ycg,ych];omega
theorem qnc {g h:Nat->Nat}{k:Nat}(hk:h k=0):∀{L:List Nat},L.Nodup->k∈L->(∀j∈L,j≠k->h j=g j)->(L.map h).sum+g k=(L.map g).sum
 | [],_,hm,_=>by cases hm
 | a::L,hn,hm,H=>by
  have hn':=yca.mp hn;simp only[ycg,ych];by_cases c:a=k
  .subst c
   have e:L.map h=L.map g:=yci λj hj=>H j (ybg _ hj) λz=>hn'.1 (z▸hj);rw[e,hk];omega
  .have:=qnc hk hn'.2 ((ybf.mp hm).resolve_left λz=>c z.symm) λj hj hne=>H j (ybg _ hj) hne
   have:=H a ybd c;omega
theorem wt_sub {ws:List Nat}{a b:Nat}(h:sub b a):wt ws b<=wt ws a:=by
 rw[qnt,qnt];refine qpi λj _=>?_;by_cases c:b.testBit j=true
 .rw[if_pos c,if_pos (qa6.mp h j c)]
  exact yaz _
 .rw[if_neg c]
  exact ybz _
theorem qqG {ws:List Nat}{a k:Nat}(hk:k<8)(h:a.testBit k=true):wt ws (qj6 a k)+ws.getD k 0=wt ws a:=by
 rw[qnt,qnt]
 have:=qnc (g:=λj=>if a.testBit j=true then ws.getD j 0 else 0) (h:=λj=>if (qj6 a k).testBit j=true then ws.getD j 0 else 0) (k:=k) (by rw[qdT h];simp) ycc (ybj.mpr hk) λj _ hne=>by
  rw[qdT h];simp[hne]
 rw[if_pos h] at this;exact this
def heavy (ws:List Nat)(bar:Int)(s:Nat):Bool:=decide (bar<=(wt ws s:Int))
theorem up_heavy (m:Nat)(ws:List Nat)(bar:Int):Up m (heavy ws bar):=λa b _ h q=>by
 unfold heavy at q⊢;have:=wt_sub (ws:=ws) h;rw[decide_eq_true_eq] at q⊢;omega
end Fam
namespace Fam
theorem qgT {ws:List Nat}{a k:Nat}(hk:k<8)(h:a.testBit k=false):wt ws (a|||2^k)=wt ws a+ws.getD k 0:=by
 have h1:(a|||2^k).testBit k=true:=by rw[or_bit];simp
 have:=qqG (ws:=ws) hk h1
 have e:qj6 (a|||2^k) k=a:=yac λj=>by
  rw[qdT h1,or_bit];by_cases c:k=j
  .subst c;simp[h]
  .simp[c,Ne.symm c]
 rw[e] at this;omega
theorem vote_part {m x y:Nat}{ws:List Nat}{bar:Int}(hm:m<=8)(hx:x<m)(hy:y<m)(h:ws.getD x 0<=ws.getD y 0):part m (heavy ws bar) x y=none:=by
 rw[qbn];intro s hs b1 b2 h1;unfold heavy at h1⊢;rw[qgT (by omega) b1,decide_eq_true_eq] at h1;rw[qgT (by omega) b2,decide_eq_true_eq];omega
end Fam
namespace Fam
structure Ord (m:Nat)(o:List Nat):Prop where
 len:o.length=m
 lt:∀x∈o,x<m
 nd:o.Nodup
def at' (o:List Nat)(k:Nat):Nat:=o.getD k 0
theorem Ord.get {m:Nat}{o:List Nat}(h:Ord m o){k:Nat}(hk:k<m):o[k]?=some (at' o k):=by
 unfold at';rw[ycj,yck (by rw[h.len];exact hk)];rfl
theorem Ord.at_lt {m:Nat}{o:List Nat}(h:Ord m o){k:Nat}(hk:k<m):at' o k<m:=h.lt _ (ycl (h.get hk))
theorem Ord.inj {m:Nat}{o:List Nat}(h:Ord m o){j k:Nat}(hj:j<m)(hk:k<m)(e:at' o j=at' o k):j=k:=by
 have h1:=h.get hj;have h2:=h.get hk;have l:=h.len;obtain⟨w1,g1⟩:=ycm.mp h1;obtain⟨w2,g2⟩:=ycm.mp h2;have nd:=ycn.mp h.nd;rcases yco j k with z | z | z
 .exact absurd (by rw[g1,g2,e]) (nd j k w1 w2 z)
 .exact z
 .exact absurd (by rw[g1,g2,e]) (nd k j w2 w1 z)
theorem Ord.sur {m:Nat}{o:List Nat}(h:Ord m o){j:Nat}(hj:j<m):∃k,k<m/\at' o k=j:=by
 by_cases hm:j∈o
 .obtain⟨k,hk,e⟩:=List.getElem_of_mem hm
  have hk':k<m:=by rw[<-h.len];exact hk
  refine⟨k,hk',?_⟩;have:=h.get hk';rw[yck hk,e] at this;exact(Option.some.inj this).symm
 .have:=nodup_le m (j::o) (yca.mpr ⟨hm,h.nd⟩) (λx hx=>by
   rcases ybf.mp hx with rfl | z
   .exact hj
   .exact h.lt x z)
  rw[ycb,h.len] at this;omega
def ex (o:List Nat)(a:Nat):Nat:=ofN ((nms 8 a).map (at' o))
theorem qlS {o:List Nat}{a j:Nat}:(ex o a).testBit j=true↔∃k,k<8/\a.testBit k=true/\at' o k=j:=by
 unfold ex;rw[qjf,decide_eq_true_eq,ybu];constructor
 .rintro⟨k,hk,e⟩
  obtain⟨h1,h2⟩:=mem_nms.mp hk;exact⟨k,h1,h2,e⟩
 .rintro⟨k,h1,h2,e⟩
  exact⟨k,mem_nms.mpr ⟨h1,h2⟩,e⟩
section
variable {m:Nat}{o:List Nat}
theorem ex_lt (h:Ord m o){a:Nat}(ha:a<2^m):ex o a<2^m:=by
 unfold ex;refine qrU λj hj=>?_;obtain⟨k,hk,rfl⟩:=ybu.mp hj;exact h.at_lt (bit_low ha (mem_nms.mp hk).2)
theorem qgN (hm:m<=8)(h:Ord m o){a k:Nat}(ha:a<2^m)(hk:k<m):(ex o a).testBit (at' o k)=a.testBit k:=by
 rw[yax,qlS];constructor
 .rintro⟨j,_,h1,e⟩
  rw[<-h.inj (bit_low ha h1) hk e];exact h1
 .intro hb
  exact⟨k,by omega,hb,rfl⟩
theorem qpo (h:Ord m o){x y:Nat}(hx:x<2^m)(hy:y<2^m)(q:∀k,k<m->x.testBit (at' o k)=y.testBit (at' o k)):x=y:=by
 apply yac;intro j;rcases yag j m with z | z
 .obtain⟨k,hk,rfl⟩:=h.sur z
  exact q k hk
 .rw[qg1 hx z,qg1 hy z]
theorem ex_sub (hm:m<=8)(h:Ord m o){a b:Nat}(ha:a<2^m)(hb:b<2^m):sub (ex o b) (ex o a)↔sub b a:=by
 rw[qa6,qa6];constructor
 .intro q k hk
  have km:=bit_low hb hk;have:=q (at' o k) (by rw[qgN hm h hb km];exact hk);rw[qgN hm h ha km] at this;exact this
 .intro q j hj
  obtain⟨k,k8,h1,e⟩:=qlS.mp hj;exact qlS.mpr ⟨k,k8,q k h1,e⟩
theorem qrw (hm:m<=8)(h:Ord m o){a b:Nat}(ha:a<2^m)(hb:b<2^m)(e:ex o a=ex o b):a=b :=
 qgC ((ex_sub hm h hb ha).mp (by rw[e];exact sub_refl _)) ((ex_sub hm h ha hb).mp (by rw[e];exact sub_refl _))
def back (o:List Nat):List Nat:=(List.range o.length).map λj=>o.idxOf j
theorem qli (h:Ord m o){j:Nat}(hj:j<m):at' (back o) j=o.idxOf j:=by
 unfold at' back;rw[ycj,ycp,h.len,ycq hj];rfl
theorem idx_at (h:Ord m o){k:Nat}(hk:k<m):o.idxOf (at' o k)=k:=by
 have hm:=ycl (h.get hk);have hi:o.idxOf (at' o k)<o.length:=ycr.mpr hm;have e:o[o.idxOf (at' o k)]=at' o k:=ycs hi;have hi':o.idxOf (at' o k)<m:=by rw[<-h.len];exact hi
 refine h.inj hi' hk ?_;have:=h.get hi';rw[yck hi,e] at this;exact(Option.some.inj this).symm
theorem back_ord (h:Ord m o):Ord m (back o):=by
 refine⟨by unfold back;simp[h.len],λx hx=>?_,?_⟩
 .unfold back at hx
  obtain⟨j,hj,rfl⟩:=ybu.mp hx;rw[h.len] at hj;obtain⟨k,hk,rfl⟩:=h.sur (ybj.mp hj);rw[idx_at h hk];exact hk
 .unfold back List.Nodup
  rw[ybw];refine List.Pairwise.imp_of_mem (λ{a b} ha hb hab e=>?_) ybi;rw[h.len] at ha hb;obtain⟨j,hj,rfl⟩:=h.sur (ybj.mp ha);obtain⟨k,hk,rfl⟩:=h.sur (ybj.mp hb);rw[idx_at h hj,idx_at h hk] at e;subst e;omega
theorem ex_back (hm:m<=8)(h:Ord m o){a:Nat}(ha:a<2^m):ex o (ex (back o) a)=a:=by
 have hb:=back_ord h;have h1:=ex_lt hb ha;refine qpo h (ex_lt h h1) ha λk hk=>?_;rw[qgN hm h h1 hk];have hk2:=h.at_lt hk;have e:at' (back o) (at' o k)=k:=by rw[qli h hk2,idx_at h hk]
 conv=>lhs;rw[<-e]
 rw[qgN hm hb ha hk2]
theorem qno (hm:m<=8)(h:Ord m o){a k:Nat}(ha:a<2^m)(hk:k<m):ex o (a|||2^k)=ex o a|||2^at' o k:=by
 have h1:=qnf ha hk;refine qpo h (ex_lt h h1) (qnf (ex_lt h ha) (h.at_lt hk)) λj hj=>?_;rw[qgN hm h h1 hj,or_bit,or_bit,qgN hm h ha hj];by_cases e:k=j
 .subst e;simp
 .have:at' o k≠at' o j:=λz=>e (h.inj hk hj z)
  simp[e,this]
end
end Fam
namespace Fam
section
variable {m:Nat}{o:List Nat}{f g:Nat->Bool}
theorem qin (hm:m<=8)(h:Ord m o)(e:∀a,a<2^m->g (ex o a)=f a){k:Nat}(hk:k<m):trn m f k<=trn m g (at' o k):=by
 refine qpt (ex o) (λs hs hc=>?_) λs t hs ht _ _ z=>qrw hm h hs ht z;obtain⟨h1,h2⟩:=qbV.mp hc;refine⟨ex_lt h hs,qbV.mpr ⟨by rw[e s hs];exact h1,?_⟩⟩;rw[<-qno hm h hs hk,e _ (qnf hs hk)];exact h2
theorem qrj (hm:m<=8)(h:Ord m o)(e:∀a,a<2^m->g (ex o a)=f a):∀a,a<2^m->f (ex (back o) a)=g a:=λa ha=>by
 rw[<-e _ (ex_lt (back_ord h) ha),ex_back hm h ha]
theorem trn_ex (hm:m<=8)(h:Ord m o)(e:∀a,a<2^m->g (ex o a)=f a){k:Nat}(hk:k<m):trn m g (at' o k)=trn m f k:=by
 refine Nat.le_antisymm ?_ (qin hm h e hk);have:=qin hm (back_ord h) (qrj hm h e) (h.at_lt hk)
 rwa [qli h (h.at_lt hk),idx_at h hk] at this
theorem part_ex_none (hm:m<=8)(h:Ord m o)(e:∀a,a<2^m->g (ex o a)=f a){x y:Nat}(hx:x<m)(hy:y<m)(z:part m g (at' o x) (at' o y)=none):part m f x y=none:=by
 rw[qbn] at z⊢;intro s hs b1 b2 h1;have:=z (ex o s) (ex_lt h hs) (by rw[qgN hm h hs hx];exact b1) (by rw[qgN hm h hs hy];exact b2) (by rw[<-qno hm h hs hx,e _ (qnf hs hx)];exact h1)
 rwa [<-qno hm h hs hy,e _ (qnf hs hy)] at this
end
end Fam
namespace Fam
def tb (n:Nat)(f:Nat->Bool):List Bool:=(List.range n).map f
def bLe (A B:List Bool):Bool:=(A.zip B).all λp=>!p.1||p.2
def quS (m:Nat)(A B:List Bool):Bool:=bLe A B&&match m with
 | 0=>true
 | k+1=>bLe (B.take (2^k)) (A.drop (2^k))
def qnj:Nat->List (List Bool)
 | 0=>[[false],[true]]
 | m+1=>(qnj m).flatMap λA=>((qnj m).filter (quS m A)).map (A++·)
def gdc (m:Nat)(T:List Bool)(c:List Nat×Nat):Bool :=
 ((List.range m).all λi=>decide (c.1.getD i 0<=5))&&(((List.range m).all λi=>(List.range m).all λj=>decide (trn m (λs=>T.getD s false) j<trn m (λs=>T.getD s false) i)==decide (c.1.getD j 0<c.1.getD i 0)) &&
  (List.range (2^m)).all λs=>T.getD s false==decide (c.2<=wt c.1 s))
def chk (m:Nat):List (List Bool)->List (List Nat×Nat)->Bool
 | [],_=>true
 | _::_,[]=>false
 | T::Ts,c::cs=>gdc m T c&&chk m Ts cs
theorem qdB {m:Nat}:∀{Ts:List (List Bool)}{cs:List (List Nat×Nat)},chk m Ts cs=true->∀T∈Ts,∃c,gdc m T c=true
 | [],_,_,T,h=>by cases h
 | _::_,[],h,_,_=>by cases h
 | U::Ts,c::cs,h,T,hT=>by
  have h':=yct.mp (show(gdc m U c&&chk m Ts cs)=true from h);rcases ybf.mp hT with rfl | z
  .exact⟨c,h'.1⟩
  .exact qdB h'.2 T z
def qtL:List (List Nat×Nat):=[([],1),([],0)]
def qt2:List (List Nat×Nat):=[([0],1),([1],1),([0],0)]
def qtI:List (List Nat×Nat):=[([0,0],1),([1,1],2),([1,0],1),([1,1],1),([0,0],0)]
def qul:List (List Nat×Nat):=[([0,0,0],1),([1,1,1],3),([1,1,0],2),([2,1,1],3),([1,1,1],2),([1,0,0],1),([2,1,1],2),([1,1,0],1),([1,1,1],1),([0,0,0],0)]
def qtO:List (List Nat×Nat):=[([0,0,0,0],1),([1,1,1,1],4),([1,1,1,0],3),([2,2,1,1],5),([2,1,1,1],4),([1,1,1,1],3),([1,1,0,0],2),([3,2,1,1],5),([2,2,1,1],4),([2,1,1,0],3),([3,2,2,1],5),([3,1,1,1],4),([2,1,1,1],3),([1,1,1,0],2),([3,2,2,1],4),([2,2,1,1],3),([1,1,1,1],2),([1,0,0,0],1),([3,1,1,1],3),([2,1,1,0],2),([3,2,1,1],3),([2,1,1,1],2),([1,1,0,0],1),([2,2,1,1],2),([1,1,1,0],1),([1,1,1,1],1),([0,0,0,0],0)]
def qtB:List (List Nat×Nat):=[([0,0,0,0,0],1),([1,1,1,1,1],5),([1,1,1,1,0],4),([2,2,2,1,1],7),([2,2,1,1,1],6),([2,1,1,1,1],5),([1,1,1,1,1],4),([1,1,1,0,0],3),([3,3,2,1,1],8),([3,2,2,1,1],7),([2,2,2,1,1],6),([2,2,1,1,0],5),([4,3,2,2,1],9),([3,3,2,2,1],8),([3,3,1,1,1],7),([3,2,1,1,1],6),([2,2,1,1,1],5),([2,1,1,1,0],4),([3,2,2,2,1],7),([5,3,2,2,1],9),([4,3,2,2,1],8),([4,2,2,1,1],7),([3,2,2,1,1],6),([3,1,1,1,1],5),([2,1,1,1,1],4),([1,1,1,1,0],3),([3,3,2,2,1],7),([4,3,3,2,1],8),([3,2,2,2,1],6),([2,2,2,1,1],5),([4,3,3,2,2],8),([3,3,2,2,2],7),([1,1,1,1,1],3),([1,1,0,0,0],2),([4,3,1,1,1],7),([3,3,1,1,1],6),([3,2,1,1,0],5),([5,4,2,2,1],9),([5,3,2,1,1],8),([4,3,2,1,1],7),([4,2,1,1,1],6),([3,2,1,1,1],5),([2,2,1,1,0],4),([5,4,3,2,1],9),([4,3,2,2,1],7),([3,3,2,1,1],6),([5,4,3,2,2],9),([2,2,1,1,1],4),([3,3,2,2,2],6),([2,1,1,0,0],3),([5,3,3,1,1],8),([5,2,2,1,1],7),([4,2,2,1,1],6),([3,2,2,1,0],5),([5,3,3,2,1],8),([4,3,3,1,1],7),([3,2,2,1,1],5),([5,4,3,2,2],8),([4,3,3,2,2],7),([3,1,1,1,0],4),([5,2,2,2,1],7),([4,1,1,1,1],5),([3,1,1,1,1],4),([2,1,1,1,0],3),([5,3,3,2,1],7),([4,3,2,2,1],6),([3,2,2,2,1],5),([5,2,2,2,1],6),([4,2,2,1,1],5),([3,2,1,1,1],4),([2,1,1,1,1],3),([1,1,1,0,0],2),([4,3,3,1,1],6),([3,3,2,1,1],5),([2,2,2,1,1],4),([3,2,2,1,0],4),([5,4,3,2,1],7),([4,3,3,2,1],6),([5,3,3,1,1],6),([4,3,2,1,1],5),([3,2,2,1,1],4),([2,2,1,1,0],3),([3,3,2,2,1],5),([5,4,2,2,1],6),([4,3,2,2,1],5),([3,3,1,1,1],4),([2,2,1,1,1],3),([1,1,1,1,0],2),([3,2,2,2,1],4),([3,3,2,2,1],4),([2,2,2,1,1],3),([1,1,1,1,1],2),([1,0,0,0,0],1),([4,1,1,1,1],4),([3,1,1,1,0],3),([5,2,2,1,1],5),([4,2,1,1,1],4),([3,1,1,1,1],3),([2,1,1,0,0],2),([5,3,2,1,1],5),([4,2,2,1,1],4),([3,2,1,1,0],3),([5,3,2,2,1],5),([4,3,1,1,1],4),([3,2,1,1,1],3),([2,1,1,1,0],2),([4,3,2,2,1],4),([3,2,2,1,1],3),([2,1,1,1,1],2),([1,1,0,0,0],1),([3,3,1,1,1],3),([2,2,1,1,0],2),([3,3,2,1,1],3),([2,2,1,1,1],2),([1,1,1,0,0],1),([2,2,2,1,1],2),([1,1,1,1,0],1),([1,1,1,1,1],1),([0,0,0,0,0],0)]
theorem quP:chk 0 (qnj 0) qtL=true:=by decide +kernel
theorem qu6:chk 1 (qnj 1) qt2=true:=by decide +kernel
theorem quR:chk 2 (qnj 2) qtI=true:=by decide +kernel
theorem quX:chk 3 (qnj 3) qul=true:=by decide +kernel
theorem quT:chk 4 (qnj 4) qtO=true:=by decide +kernel
theorem qu0:chk 5 (qnj 5) qtB=true:=by decide +kernel
theorem qov {m:Nat}(hm:m<=5):∀T∈qnj m,∃c,gdc m T c=true:=by
 have:m=0\/m=1\/m=2\/m=3\/m=4\/m=5:=by omega
 rcases this with rfl | rfl | rfl | rfl | rfl | rfl
 .exact qdB quP
 .exact qdB qu6
 .exact qdB quR
 .exact qdB quX
 .exact qdB quT
 .exact qdB qu0
theorem qph (n:Nat)(f:Nat->Bool):(tb n f).length=n:=by simp[tb]
theorem qnv {n:Nat}{f g:Nat->Bool}(h:∀s,s<n->f s=g s):tb n f=tb n g:=yci λs hs=>h s (ybj.mp hs)
theorem qrI (a b:Nat)(f:Nat->Bool):tb (a+b) f=tb a f++tb b λs=>f (a+s):=by
 unfold tb;rw[ycu,ycv,ycw];rfl
theorem qpq {m s:Nat}(hs:s<2^m):2^m+s=s|||2^m:=by
 have:=Nat.two_pow_add_eq_or_of_lt hs 1;rw[Nat.mul_one] at this;rw[this,Nat.or_comm]
theorem qmt (m:Nat)(f:Nat->Bool):tb (2^(m+1)) f=tb (2^m) f++tb (2^m) λs=>f (s|||2^m):=by
 rw[show 2^(m+1)=2^m+2^m by omega,qrI];congr 1;exact qnv λs hs=>by rw[qpq hs]
theorem qpE {n:Nat}{f g:Nat->Bool}(h:∀s,s<n->f s=true->g s=true):bLe (tb n f) (tb n g)=true:=by
 unfold bLe tb;rw[List.zip_map',List.all_map,ybh];intro s hs;have:=h s (ybj.mp hs);show(!f s||g s)=true;cases e:f s
 .rfl
 .rw[this e];rfl
def Reg (m:Nat)(f:Nat->Bool):Prop:=∀i j,i<j->j<m->part m f j i=none
theorem qtj (a b c:Nat):a|||b|||c=a|||c|||b:=by rw[Nat.or_assoc,Nat.or_comm b,<-Nat.or_assoc]
theorem qlU {m s k:Nat}(hs:s<2^m)(hk:m<=k):s.testBit k=false:=yad (yae hs (yaf (by decide) hk))
theorem qbR {m s:Nat}(hs:s<2^m):s<2^(m+1):=yae hs (yaf (by decide) (ycx m))
theorem qjl:∀{m:Nat}{f:Nat->Bool},Up m f->Reg m f->tb (2^m) f∈qnj m
 | 0,f,_,_=>by
  show[f 0]∈[[false],[true]];cases f 0<;>simp
 | m+1,f,u,r=>by
  have hi:∀s,s<2^m->s|||2^m<2^(m+1):=λs hs=>ybr (qbR hs) (ybs (by decide) (ycy m))
  have u0:Up m f:=λa b ha hs hb=>u a b (qbR ha) hs hb
  have r0:Reg m f:=λi j h1 h2=>by
   have:=qbn.mp (r i j h1 (by omega));exact qbn.mpr λs hs=>this s (qbR hs)
  have u1:Up m λs=>f (s|||2^m):=λa b ha hs hb=>u _ (b|||2^m) (hi a ha) (qa6.mpr λk hk=>by
   rw[or_bit] at hk⊢;rcases(ycz _ _).mp hk with z | z
   .rw[qa6.mp hs k z];rfl
   .rw[z];simp) hb
  have r1:Reg m λs=>f (s|||2^m):=λi j h1 h2=>by
   have:=qbn.mp (r i j h1 (by omega));refine qbn.mpr λs hs b1 b2 h3=>?_;have g1:(s|||2^m).testBit j=false:=by rw[or_bit,b1];simp;omega
   have g2:(s|||2^m).testBit i=false:=by rw[or_bit,b2];simp;omega
   have:=this (s|||2^m) (hi s hs) g1 g2;rw[qtj s (2^m),qtj s (2^m)] at this;exact this h3
  rw[qmt];refine yda.mpr ⟨_,qjl u0 r0,ybu.mpr ⟨_,yba.mpr ⟨qjl u1 r1,?_⟩,rfl⟩⟩;refine yct.mpr ⟨qpE λs hs h=>u _ s (hi s hs) (qa6.mpr λk hk=>by rw[or_bit,hk];rfl) h,?_⟩;cases m with
  | zero=>rfl
  | succ k =>
   show bLe ((tb (2^(k+1)) λs=>f (s|||2^(k+1))).take (2^k)) ((tb (2^(k+1)) f).drop (2^k))=true;rw[qmt,qmt,List.take_left' (qph _ _),List.drop_left' (qph _ _)];refine qpE λs hs h=>?_;exact qbn.mp (r k (k+1) (ycy k) (by omega)) s (qbR (qbR hs)) (qlU hs (by omega)) (qlU hs (yaz _)) h
theorem qoV {n s:Nat}{f:Nat->Bool}(hs:s<n):(tb n f).getD s false=f s:=by
 unfold tb;rw[ycj,ycp,ycq hs];rfl
theorem reg_wt {m:Nat}{f:Nat->Bool}(hm:m<=5)(u:Up m f)(r:Reg m f):∃(W:List Nat) (b:Nat),(∀i,i<m->W.getD i 0<=5)/\(∀i j,i<m->j<m->(trn m f j<trn m f i↔W.getD j 0<W.getD i 0))/\∀s,s<2^m->f s=decide (b<=wt W s):=by
 obtain⟨⟨W,b⟩,h⟩:=qov hm _ (qjl u r);have h':=yct.mp h;have h'':=yct.mp h'.2;have et:∀k,k<m->trn m (λs=>(tb (2^m) f).getD s false) k=trn m f k:=λk hk=>qkX hk λs hs=>qoV hs;refine⟨W,b,λi hi=>?_,λi j hi hj=>?_,λs hs=>?_⟩
 .exact of_decide_eq_true (ybh.mp h'.1 i (ybj.mpr hi))
 .have:=ybh.mp (ybh.mp h''.1 i (ybj.mpr hi)) j (ybj.mpr hj)
  have e:=eq_of_beq this;rw[et i hi,et j hj,yax,decide_eq_true_eq,decide_eq_true_eq] at e;exact e
 .have:=eq_of_beq (ybh.mp h''.2 s (ybj.mpr hs))
  rw[qoV hs] at this;exact this
theorem wt_ex {m:Nat}{o W N:List Nat}(hm:m<=8)(h:Ord m o)(e:∀k,k<m->N.getD (at' o k) 0=W.getD k 0):∀{a:Nat},a<2^m->wt N (ex o a)=wt W a:=by
 have key:∀k,k<=m->∀a,a<2^k->wt N (ex o a)=wt W a:=λk=>by
  induction k with
  | zero =>
   intro _ a ha;obtain rfl:a=0:=by simpa using ha
   have e0:nms 8 0=[]:=by decide
   have e1:ex o 0=0:=by unfold ex;rw[e0];rfl
   rw[e1];unfold wt;rw[e0];rfl
  | succ k ih =>
   intro hk a ha;by_cases c:a<2^k
   .exact ih (by omega) a c
   .have hp:2^(k+1)=2^k+2^k:=by omega
    have hb:a-2^k<2^k:=by omega
    have ea:a=(a-2^k)|||2^k:=by rw[<-qpq hb];omega
    have lb:a-2^k<2^m:=yae hb (yaf (by decide) (by omega));have km:k<m:=by omega
    have n1:(a-2^k).testBit k=false:=qlU hb (yaz _);generalize a-2^k=b at *;rw[ea,qno hm h lb km,qgT (by have:=h.at_lt km;omega) (by rw[qgN hm h lb km];exact n1),qgT (by omega) n1,ih (by omega) b hb,e k km]
 exact λ{a} ha=>key m (yaz _) a ha
end Fam
namespace STb
open PySem PySem.SetTable
def Ris (xs:Array Nat):Prop:=xs.toList.Pairwise (· < ·)
theorem Ris.lt {xs:Array Nat}(h:Ris xs){i j a b:Nat}(hij:i<j)(ha:xs[i]?=some a)(hb:xs[j]?=some b):a<b:=by
 have h':=ycn.mp h;rw[<-ydb] at ha hb;obtain⟨h1,e1⟩:=ycm.mp ha;obtain⟨h2,e2⟩:=ycm.mp hb;have:=h' i j h1 h2 hij;rw[e1,e2] at this;exact this
theorem Ris.le {xs:Array Nat}(h:Ris xs){i j a b:Nat}(hij:i<=j)(ha:xs[i]?=some a)(hb:xs[j]?=some b):a<=b:=by
 rcases yag i j with z | z
 .exact ydc (h.lt z ha hb)
 .have:i=j:=by omega
  subst this;rw[ha] at hb;cases hb;exact yaz _
theorem qiC {xs:Array Nat}(h:Ris xs)(j:Nat):∀(fuel lo hi:Nat),hi-lo<=fuel->lo<=hi->hi<=xs.size ->
 (∀i y,i<lo->xs[i]?=some y->y<j)->(∀i y,hi<=i->xs[i]?=some y->j<=y) ->
 below.go xs j fuel lo hi<=xs.size/\(∀i y,i<below.go xs j fuel lo hi->xs[i]?=some y->y<j)/\(∀i y,below.go xs j fuel lo hi<=i->xs[i]?=some y->j<=y)
 | 0,lo,hi,hf,hl,hs,h1,h2=>by
  have:lo=hi:=by omega
  subst this;exact⟨hs,h1,h2⟩
 | fuel+1,lo,hi,hf,hl,hs,h1,h2=>by
  rw[below.go];by_cases hlt:lo<hi
  .rw[if_pos hlt]
   dsimp only;have hm:(lo+hi)/2<xs.size:=by omega
   have hg:xs[(lo+hi)/2]?=some (xs.getD ((lo+hi)/2) j):=by simp[Array.getD,hm]
   by_cases hc:xs.getD ((lo+hi)/2) j<j
   .rw[if_pos hc]
    refine qiC h j fuel _ _ (by omega) (by omega) hs (λi y hi' e=>?_) h2;exact ybk (h.le (by omega) e hg) hc
   .rw[if_neg hc]
    refine qiC h j fuel _ _ (by omega) (by omega) (by omega) h1 (λi y hi' e=>?_);exact ybn (Nat.not_lt.mp hc) (h.le hi' hg e)
  .rw[if_neg hlt]
   have:lo=hi:=by omega
   subst this;exact⟨hs,h1,h2⟩
theorem qeu {xs:Array Nat}(h:Ris xs)(j:Nat):below xs j<=xs.size/\(∀i y,i<below xs j->xs[i]?=some y->y<j)/\(∀i y,below xs j<=i->xs[i]?=some y->j<=y) :=
 qiC h j xs.size 0 xs.size (by omega) (ybz _) (yaz _) (λi y hi=>by omega) (λi y hi e=>by
  rw[ydd (by omega)] at e;cases e)
theorem qkz {xs:Array Nat}(h:Ris xs):below xs 0=0:=by
 obtain⟨h0,h1,_⟩:=qeu h 0;rcases yde (below xs 0) with z | z
 .exact z
 .have hlt:0<xs.size:=by omega
  have:=h1 0 xs[0] z (by simp);omega
theorem qj8 {xs:Array Nat}(h:Ris xs){i y:Nat}(e:xs[i]?=some y):below xs (y+1)=i+1:=by
 obtain⟨h0,h1,h2⟩:=qeu h (y+1)
 have hi:i<xs.size:=by
  rcases yag i xs.size with z | z
  .exact z
  .rw[ydd z] at e;cases e
 have g1:¬below xs (y+1)<=i:=λz=>by have:=h2 i y z e;omega
 have g2:¬i+1<below xs (y+1):=λz=>by
  have hlt:i+1<xs.size:=by omega
  have q:=h1 (i+1) xs[i+1] z (by simp[hlt]);have q':=h.lt (ycy i) e (show xs[i+1]?=some xs[i+1] by simp[hlt]);omega
 omega
theorem qfq {α:Type}(xs:Array α)(p:Nat)(hp:p<=xs.size)(x:α):(insertAt xs p x).toList=xs.toList.take p++x::xs.toList.drop p:=by
 unfold insertAt
 have e2:(xs.extract p xs.size).toList=xs.toList.drop p:=by
  rw[ydf,List.extract_eq_drop_take];have:xs.size-p=(xs.toList.drop p).length:=by rw[ydg,ydh]
  rw[this,ydi]
 have e1:(xs.extract 0 p).toList=xs.toList.take p:=by
  rw[ydf,List.extract_eq_drop_take];rfl
 rw[Array.toList_append,ydj,e1,e2,ydk];rfl
theorem qqW {t:SetTable}(h:Ris t.place){j:Nat}(hj:t.place[below t.place j]?≠some j):Ris (t.put j).1.place:=by
 obtain⟨h0,h1,h2⟩:=qeu h j;unfold SetTable.put Ris;dsimp only;rw[qfq _ _ h0];have hp:(t.place.toList.take (below t.place j)++t.place.toList.drop (below t.place j)).Pairwise (· < ·):=by rw[ydl];exact h
 obtain⟨p1,p2,p3⟩:=yas.mp hp;refine yas.mpr ⟨p1,ybe.mpr ⟨λy hy=>?_,p2⟩,λx hx y hy=>?_⟩
 .obtain⟨i,e⟩:=ydm hy
  rw[List.getElem?_drop,ydb] at e;have q:=h2 _ y (Nat.le_add_right _ _) e;rcases yag j y with z | z
  .exact z
  .exfalso
   have ey:y=j:=by omega
   subst ey;cases i with
   | zero=>exact hj (by simpa using e)
   | succ i =>
    have hlt:below t.place y<t.place.size:=by
     rcases yag (below t.place y+(i+1)) t.place.size with z | z
     .omega
     .rw[ydd z] at e;cases e
    have q1:=h2 (below t.place y) t.place[below t.place y] (yaz _) (by simp);have q2:=h.lt (show below t.place y<below t.place y+(i+1) by omega) (show t.place[below t.place y]?=some t.place[below t.place y] by simp) e;omega
 .have hx':x<j:=by
   obtain⟨i,e⟩:=ydm hx;rw[List.getElem?_take] at e;split at e
   .rename_i hi
    rw[ydb] at e;exact h1 i x hi e
   .cases e
  rcases ybf.mp hy with rfl | hy
  .exact hx'
  .exact p3 x hx y hy
def qfS (t:SetTable)(j:Nat):Prop:=t.place[below t.place j]?≠some j
theorem qeE {t:SetTable}{j:Nat}(h:∀i,t.slot j ≠ .live i):qfS t j:=by
 intro e;unfold SetTable.slot at h;dsimp only at h;rw[if_pos (by rw[e];simp)] at h;exact h _ rfl
theorem qhi {t:SetTable}{h:Int}:∀(fuel:Nat) (p:Probe) (j:Nat) (d:Option Nat),(∀x,p.dummy=some x->qfS t x)->probe.go t (λ_=>h+1) h fuel p=some (.empty j d)->qfS t j/\∀x,d=some x->qfS t x
 | 0,p,j,d,_,e=>by rw[probe.go] at e;cases e
 | fuel+1,p,j,d,hp,e=>by
  rw[probe.go] at e;cases hs:t.slot p.j with
  | empty =>
   rw[hs] at e;cases e;exact⟨qeE (λi z=>by rw[hs] at z;exact(nomatch z)),hp⟩
  | dummy =>
   rw[hs] at e;refine qhi fuel _ j d (λx hx=>?_) e;have:(t.advance { p with dummy:=some p.j }).dummy=some p.j:=by unfold SetTable.advance;dsimp only;split<;>rfl
   rw[this] at hx;cases hx;exact qeE λi z=>by rw[hs] at z;cases z
  | live i =>
   rw[hs] at e;dsimp only at e;rw[if_neg (by simp;omega)] at e;refine qhi fuel _ j d (λx hx=>hp x ?_) e;have:(t.advance p).dummy=p.dummy:=by unfold SetTable.advance;dsimp only;split<;>rfl
   rw[this] at hx;exact hx
theorem qh7 {t:SetTable}{h:Int}{j:Nat}{b:Bool}(e:t.freeSlot h=some (j,b)):qfS t j:=by
 unfold SetTable.freeSlot at e;split at e
 .rename_i k d hd
  cases e;obtain⟨q1,q2⟩:=qhi _ _ _ _ (by intro x hx;cases hx) hd;cases d with
  | none=>exact q1
  | some x=>exact q2 x rfl
 .cases e
theorem qlL (n:Nat):Ris (Array.range n):=by
 unfold Ris;rw[Array.toList_range];exact ybi
theorem qcn (t:SetTable)(n:Nat):Ris (t.standIn n).place:=qlL n
theorem qkj {t:SetTable}{es:Array (Int×Value)}{h:Int}{x:Value}(hr:Ris t.place):Ris (layNew t es h x).2.1.place/\(layNew t es h x).2.1.led=t.led:=by
 unfold layNew;split
 .rename_i slot wd e
  dsimp only;unfold SetTable.orStandIn;split
  .exact⟨qqW hr (qh7 e),rfl⟩
  .exact⟨qcn _ _,rfl⟩
 .exact⟨qcn _ _,rfl⟩
theorem qoL {mask finger moves:Nat}{led plain:Bool}{hashes:Array Int}{t:SetTable}{o:Array Nat}(e:laid mask finger moves led plain hashes=some (t,o)):Ris t.place/\t.led=led:=by
 unfold laid at e;cases hc:layClean mask hashes with
 | none=>rw[hc] at e;cases e
 | some owner =>
  rw[hc] at e;have e':=Option.some.inj e;have e1:=congrArg Prod.fst e';dsimp only at e1;subst e1;refine⟨?_,rfl⟩;unfold Ris;dsimp only
  have key:∀l:List Nat,l.Pairwise (· < ·)->((l.filterMap λj=>(owner.getD j none).map (j,·)).map (·.1)).Pairwise (· < ·):=by
   intro l
   induction l with
   | nil=>intro _;exact List.Pairwise.nil
   | cons a r ih =>
    intro hp;obtain⟨h1,h2⟩:=ybe.mp hp;rw[ydn];split
    .exact ih h2
    .rename_i b hb
     rw[ycg];refine ybe.mpr ⟨λy hy=>?_,ih h2⟩
     have hb':b.1=a:=by
      cases hq:owner.getD a none with
      | none=>rw[hq] at hb;cases hb
      | some z=>rw[hq] at hb;cases hb;rfl
     rw[hb'];obtain⟨q,hq,rfl⟩:=ybu.mp hy;obtain⟨z,hz,e⟩:=ydo.mp hq
     have:q.1=z:=by
      cases hq2:owner.getD z none with
      | none=>rw[hq2] at e;cases e
      | some v=>rw[hq2] at e;cases e;rfl
     rw[this];exact h1 z hz
  simpa using key (List.range (mask+1)) ybi
theorem qhM {t:SetTable}{es:Array (Int×Value)}{wanted:Nat}:Ris (relayAll t es wanted).2.1.place/\(relayAll t es wanted).2.1.led=t.led:=by
 unfold relayAll;split
 .rename_i t' order e
  dsimp only;split
  .unfold SetTable.relaid at e
   exact qoL e
  .exact⟨qcn _ _,rfl⟩
 .exact⟨qcn _ _,rfl⟩
end STb
namespace STb
open PySem PySem.SetTable PyProof.Rows
def kI:Value->Option Int
 | .int n _=>some n
 | _=>none
theorem qqk {prog:Program}{w:World}{k:Int}{v:Value}:(intKind prog w).is k v=true↔kI v=some k:=by
 constructor
 . intro h
   cases v<;>first
     | (rename_i n t;have:n=k:=by simpa[intKind,Value.isInt] using h
        rw[this];rfl)
     | (exfalso;simp[intKind,Value.isInt] at h)
 . intro h
   cases v<;>first
     | (rename_i n t;cases h;exact intKind_is _ _ _ _)
     | cases h
def RS (prog:Program)(w:World)(h:Heap)(a:Addr)(ns:List Int):Prop :=
 ∃es ep t,h.get? a=some { cls := .type "set",dict:=none,data := .set es ep t }/\ElemsOf (intKind prog w) es.toList/\(es.toList.map λe=>kI e.2).Perm (ns.map some)/\es.size<scanBound/\t.fits es.size=true /\
  Ris t.place/\t.led = !w.params.followText "set-order" /\ ns.Nodup
theorem RS.keep {prog:Program}{w:World}{h h':Heap}{a:Addr}{ns:List Int}(r:RS prog w h a ns)(k:∀o,h.get? a=some o->h'.get? a=some o):RS prog w h' a ns:=by
 obtain⟨es,ep,t,e,q⟩:=r;exact⟨es,ep,t,k _ e,q⟩
theorem RS.len {prog:Program}{w:World}{h:Heap}{a:Addr}{ns:List Int}(r:RS prog w h a ns):ns.length<scanBound:=by
 obtain⟨es,ep,t,e,_,p,b,_⟩:=r;have:=p.length_eq;rw[ycd,ycd,ydh] at this;omega
def qds (ns:List Int)(n:Int):List Int:=if n∈ns then ns else ns++[n]
theorem qg5 {ns:List Int}{n:Int}(h:ns.Nodup):(qds ns n).Nodup:=by
 unfold qds;split
 .exact h
 .rename_i hn
  exact List.nodup_append.mpr ⟨h,by simp,λa ha b hb e=>hn (by simp at hb;rw[<-hb,<-e];exact ha)⟩
theorem qhB {ns:List Int}{n k:Int}:k∈qds ns n↔k∈ns\/k=n:=by
 unfold qds;split
 .rename_i hn
  exact⟨.inl,λh=>h.elim id λe=>e▸hn⟩
 .simp
theorem qmw (ns:List Int)(n:Int):(qds ns n).length<=ns.length+1:=by
 unfold qds;split
 .omega
 .simp
section
variable {prog:Program}{w:World}{A:Around}{E:Value->Shared->Prop}{s:Shared}{a:Addr}
theorem qtm {ns:List Int}{n:Int}{tk:Tok}{Q:Bool->Shared->Prop}(r:RS prog w s.heap a ns)(room:ns.length+1<scanBound)
 (h:∀b h',Heap.SameBut a s.heap h'->RS prog w h' a (qds ns n)->Q b { s with heap:=h' }) :
 wpAny (model prog w) A (setAddHashed a (.int n tk) ((intKind prog w).hash n)) Q E s:=by
 obtain⟨es,ep,t,ho,el,pm,bd,ft,rs,ld,nd⟩:=r
 have hsz:es.size=ns.length:=by
  have:=pm.length_eq
  rwa [ycd,ycd,ydh] at this
 have hkey:(intKind prog w).is n (.int n tk)=true:=intKind_is _ _ _ _
 have memk:∀k:Int,k∈ns↔∃e∈es.toList,(intKind prog w).is k e.2=true:=λk=>by
  have:k∈ns↔some k∈ns.map some:=by simp
  rw[this,<-pm.mem_iff,ybu];exact⟨λ⟨e,he,q⟩=>⟨e,he,qqk.mpr q⟩,λ⟨e,he,q⟩=>⟨e,he,qqk.mp q⟩⟩
 unfold setAddHashed setAddHashedIn;refine wpAny_holding (wpAny_bind (wpAny_setState_of ho rfl ft ?_));dsimp only;rw[byScan_of (x := .int n tk) rfl bd el];simp only[if_true];unfold setAddByScan;refine wpAny_bind (wpAny_bind (wpAny_rule (wpAny_bind (wpAny_setScan_of hkey ho rfl ft el ?_))));cases hr:List.findIdx? (λe=>(intKind prog w).is n e.2) es.toList with
 | some j =>
  dsimp only;obtain⟨hj,hpj,_⟩:=List.findIdx?_eq_some_iff_getElem.mp hr;have hin:n∈ns:=(memk n).mpr ⟨_,ydp hj,hpj⟩;refine wpAny_pure (wpAny_pure ?_);have q:=h false s.heap (Heap.SameBut.refl a s.heap) (by rw[show qds ns n=ns from if_pos hin];exact⟨es,ep,t,ho,el,pm,bd,ft,rs,ld,nd⟩);exact q
 | none =>
  dsimp only
  have hnot:¬n∈ns:=λz=>by
   obtain⟨e,he,q⟩:=(memk n).mp z;have:=List.findIdx?_eq_none_iff.mp hr e he;rw[q] at this;cases this
  have pN:=layNew_perm t es ((intKind prog w).hash n) (.int n tk);have fN:=layNew_fits t es ((intKind prog w).hash n) (.int n tk);have rN:=qkj (es:=es) (h:=(intKind prog w).hash n) (x := .int n tk) rs;generalize layNew t es ((intKind prog w).hash n) (.int n tk)=L at pN fN rN⊢;obtain⟨e1,t1,wd,gv⟩:=L;dsimp only at pN fN rN⊢;rw[ydj] at pN;have el1:ElemsOf (intKind prog w) e1.toList:=(el.push hkey rfl).perm pN
  have pm1:(e1.toList.map λe=>kI e.2).Perm ((qds ns n).map some):=by
   rw[show qds ns n=ns++[n] from if_neg hnot,ycv];refine(pN.map λe=>kI e.2).trans ?_;rw[ycv];exact pm.append (List.Perm.refl _)
  have sz1:e1.size=es.size+1:=by
   rw[<-ydh,pN.length_eq,ydq,ydh];rfl
  have bd1:e1.size<scanBound:=by omega
  have nd1:=qg5 (n:=n) nd
  have gw:∀(b:Bool) (s₁:Shared) (Q':Unit->Shared->Prop),Q' () s₁->wpAny (model prog w) A (match b with | true=>rule "set.scan.the-table-gave-way" | false=>pure ()) Q' E s₁:=λb s₁ Q' q=>by
   cases b
   .exact wpAny_pure q
   .exact wpAny_rule q
  refine wpAny_bind (gw gv _ _ ?_)
  have tail:∀t2:SetTable,t2.fits e1.size=true->Ris t2.place->t2.led=t.led->wpAny (model prog w) A (do
   storeSet a e1 t2
   if (!wd&&t2.tooFull)=true then do
    (match (relayAll t2 e1 (SetTable.grown e1.size)).2.2 with | true=>rule "set.scan.the-table-gave-way" | false=>pure ())
    storeSet a (relayAll t2 e1 (SetTable.grown e1.size)).1 (relayAll t2 e1 (SetTable.grown e1.size)).2.1
    pure (some true)
    else pure (some true)) (λr s'=>∃b,r=some b/\Q b s') E s:=λt2 f2 r2 l2=>by
   refine wpAny_bind (wpAny_storeSet_of ho rfl ?_ (fits_of_scanBound bd1));have g1:(s.heap.update a (Obj.putSet e1 t2)).get? a=some { cls := .type "set",dict:=none,data := .set e1 (ep+1) t2 }:=ydr (Obj.putSet e1 t2) ho rfl;have sb1:=Heap.SameBut.update s.heap a (Obj.putSet e1 t2);split
   .have pR:=relayAll_perm t2 e1 (SetTable.grown e1.size)
    have fR:=relayAll_fits t2 e1 (SetTable.grown e1.size);have rR:=qhM (t:=t2) (es:=e1) (wanted:=SetTable.grown e1.size);generalize relayAll t2 e1 (SetTable.grown e1.size)=L2 at pR fR rR⊢;obtain⟨e3,t3,g3⟩:=L2;dsimp only at pR fR rR⊢;have sz3:e3.size=e1.size:=by rw[<-ydh,pR.length_eq,ydh]
    refine wpAny_bind (gw g3 _ _ (wpAny_bind (wpAny_storeSet_of g1 rfl ?_ (fits_of_scanBound (by omega)))));exact wpAny_pure ⟨true,rfl,h true _ (sb1.trans (Heap.SameBut.update _ a _)) ⟨e3,_,t3,ydr (Obj.putSet e3 t3) g1 rfl,el1.perm pR,(pR.map _).trans pm1,by omega,fR,rR.1,by rw[rR.2,l2];exact ld,nd1⟩⟩
   .exact wpAny_pure ⟨true,rfl,h true _ sb1 ⟨e1,_,t2,g1,el1,pm1,bd1,f2,r2,by rw[l2];exact ld,nd1⟩⟩
  have fin:∀(r:Option Bool) (s':Shared),(∃b,r=some b/\Q b s')->wpAny (model prog w) A (match r with | some added=>pure added | none=>setAddHashedIn a (.int n tk) ((intKind prog w).hash n) 99999) Q E s':=λr s' ⟨b,e,q⟩=>by
   subst e;exact wpAny_pure q
  split
  .refine wpAny_bind ?_
   rw[hashByValue_scannable 8 (x := .int n tk) rfl];refine wpAny_pure ?_;refine wpAny_mono (tail t1 fN rN.1 rN.2) (λr s' q=>?_) λ_ _ z=>z;exact fin r s' q
  .refine wpAny_bind (wpAny_pure ?_)
   refine wpAny_mono (tail t1 fN rN.1 rN.2) (λr s' q=>?_) λ_ _ z=>z;exact fin r s' q
end
end STb
namespace STb
open PySem PySem.SetTable PyProof.Rows
def qcd (val:Nat->Int)(i:Nat):List Int:=((List.range i).map val).foldl qds []
theorem qc8 (val:Nat->Int)(i:Nat):qcd val (i+1)=qds (qcd val i) (val i):=by
 unfold qcd;rw[yds,ycv,yar];rfl
theorem qfD (val:Nat->Int):∀i,(qcd val i).length<=i
 | 0=>ybz _
 | i+1=>by
  rw[qc8];have h1:=qmw (qcd val i) (val i);have h2:=qfD val i;omega
theorem qhE (val:Nat->Int)(k:Int):∀i,k∈qcd val i↔∃j,j<i/\val j=k
 | 0=>by simp[qcd]
 | i+1=>by
  rw[qc8,qhB,qhE val k i];constructor
  .rintro(⟨j,hj,e⟩ | e)
   .exact⟨j,by omega,e⟩
   .exact⟨i,by omega,e.symm⟩
  .rintro⟨j,hj,e⟩
   by_cases z:j=i
   .exact .inr (by rw[<-e,z])
   .exact .inl ⟨j,by omega,e⟩
section
variable {prog:Program}{w:World}{A:Around}{R:Result->Shared->Prop}{I:Addr}{fp wr:List Addr}{G:Array GenState->Array GenState->Prop}{n:Nat}{P:Nat->Value->Prop}{St:Nat->Shared->Prop}
theorem qlA (W:WalksS prog w A.in1 I fp wr G n P St)(S:Addr)(out:S∉fp)(val:Nat->Int)(hv:∀i v,P i v->∃t,v = .int (val i) t)(room:∀i,i<=n->(qcd val i).length+1<scanBound) :
 ∀(k i:Nat) (s:Shared),n-i=k->i<=n->St i s->RS prog w s.heap S (qcd val i) ->
  (∀s',Moved (S::wr) G s s'->RS prog w s'.heap S (qcd val n)->R (.ok (.ret .none)) s')->codeAny (model prog w) A (.builtin "set.update.loop" ⟨[.ref S,.ref I],[]⟩) R s:=by
 have nw:S∉wr:=λz=>out (W.sub _ z);have sub:∀b∈wr,b∈S::wr:=λb z=>ybg _ z;intro k
 induction k with
 | zero =>
  intro i s hk hi st r fin;have:i=n:=by omega
  subst this;refine codeAny_builtin F.entry_set_update_loop ?_;rw[Around.under_plainId F.plain_set_update_loop _];refine wpAny_bind (m:=pyNext (.ref I)) (W.done s _ _ st λs' mv=>?_);exact wpAny_pure (fin s' (mv.mono sub) (r.keep λo e=>mv.heap S o nw e))
 | succ k ih =>
  intro i s hk hi st r fin;have hlt:i<n:=by omega
  refine codeAny_builtin F.entry_set_update_loop ?_;rw[Around.under_plainId F.plain_set_update_loop _];refine wpAny_bind (m:=pyNext (.ref I)) (W.item i s _ _ hlt st λv s' pv st' mv=>?_);obtain⟨t,rfl⟩:=hv i v pv;have r':=r.keep (h':=s'.heap) λo e=>mv.heap S o nw e;show wpAny _ A.in1 (holding [Value.int (val i) t] (setAdd S (.int (val i) t)) >>= _) _ _ s';refine wpAny_bind (wpAny_holding ?_);unfold setAdd;refine wpAny_holding (wpAny_bind ((intKind prog w).pyHash (k:=val i) (intKind_is _ _ _ _) ?_));refine qtm (s:={ s' with toks:=s'.toks+1 }) r' (room i hi) λb h' sb r2=>?_;refine wpAny_pure ⟨plainId_quiet F.plain_set_update_loop _,ih (i+1) _ (by omega) hlt (W.frame _ s' _ _ st' (ycx _) λb hb o e=>?_) (by rw[qc8];exact r2) λs2 mv2 r3=>?_⟩
  .rw[sb.2 b λz=>out (z▸hb)];exact e
  .refine fin s2 (Moved.trans W.gtrans ((mv.mono sub).then_heap (ycx _) λb o hb e=>?_) mv2) r3
   rw[sb.2 b λz=>hb (z▸ybd)];exact e
end
section
variable {prog:Program}{w:World}{A:Around}{E:Value->Shared->Prop}{s:Shared}
abbrev qdi (b:Bool):Obj:={ cls := .type "set",dict:=none,data := .set #[] 0 (.fresh 0 0 b) }
theorem qoo {h:Heap}{a:Addr}(e:h.get? a=some (qdi (!w.params.followText "set-order"))):RS prog w h a [] :=
 ⟨#[],0,_,e,λ_ z=>by simp at z,List.Perm.refl _,by show 0<4096;decide,rfl,List.Pairwise.nil,rfl,List.nodup_nil⟩
theorem qqw (v:Value){Q₁:Value->Shared->Prop}(h:Q₁ (.ref s.heap.objs.size) { s with heap:=s.heap.push (qdi (!w.params.followText "set-order")) }) :
 codeAny (model prog w) A (.call (.builtin "set.__new__") ⟨[.type "set",v],[]⟩) (wants Q₁ E) s:=by
 refine codeAny_of_tree ?_;refine wpAny_bind (m:=checkBuiltinCall "set.__new__" ⟨[.type "set",v],[]⟩) (wpAny_of_eq (F.newCall_set_1 v) (wpAny_pure ⟨plainId_quiet F.plain_set_new _,codeAny_builtin F.entry_set_new ?_⟩));rw[Around.under_plainId F.plain_set_new _];unfold Builtin.«set.__new__» Builtin.Frozenset.newClass;have sub0:=sub_set_self;obtain⟨hp,g,d,tk,os⟩:=s;dsimp only
 wp_walk
 refine wpAny_askSetting (wpAny_pure ?_);dsimp only;simp only[newObj];exact wpAny_bind (wpAny_alloc (wpAny_pure (wpAny_pure h)))
set_option maxHeartbeats 3200000 in
theorem qlG {l:Addr}{its:Array Value}{ns:List Int}{Q:Value->Shared->Prop}(hh:A.handled=none)(hl:s.heap.IsList l its)(hi:IntsAre its.toList ns)(room:∀i,i<=its.size->(qcd (λi=>ns.getD i 0) i).length+1<scanBound)
 (h:∀(h':Heap) (tk:Nat),RS prog w h' s.heap.objs.size (qcd (λi=>ns.getD i 0) its.size)->(∀b o,b<s.heap.objs.size->s.heap.get? b=some o->h'.get? b=some o)->Q (.ref s.heap.objs.size) { s with heap:=h',toks:=tk }) :
 wpAny (model prog w) A (call (.type "set") [.ref l]) Q E s:=by
 obtain⟨c,tl,mro⟩:=F.called_set.mro;have made:=F.called_set.made;have sub1:=F.called_set.sub;refine wpAny_call (codeAny_of_tree (wpAny_pure ⟨Code.quiet_builtin _ (by decide +kernel),codeAny_builtin F.entry_type_call ?_⟩));rw[Around.under_plain (weight_type_call_type "set" [.ref l] []) rfl];have nt:=F.called_set.notType;have cc:=F.called_set.canCreate;have tc:=F.typeCall_set_1 (.ref l)
 repeat (any_goals (first | assumption | wp_step))
 refine codeAny_mono (qqw (.ref l) (E:=E) (Q₁:=λobj s₁=>obj = .ref s.heap.objs.size/\s₁={ s with heap:=s.heap.push (qdi (!w.params.followText "set-order")) }) ⟨rfl,rfl⟩) λr s₁ hr=>?_;cases r with
 | error e=>exact hr
 | ok fl =>
  cases fl with
  | ret obj =>
   obtain⟨rfl,rfl⟩:=hr;have g0:(s.heap.push (qdi (!w.params.followText "set-order"))).get? s.heap.objs.size=some (qdi (!w.params.followText "set-order")):=ydt _ rfl;have ty:Shared.TypeIs { s with heap:=s.heap.push (qdi (!w.params.followText "set-order")) } (.ref s.heap.objs.size) "set" := ⟨_,g0,rfl⟩;have li:=F.called_set.init.lookup;have bi:=F.called_set.init.bind (.ref s.heap.objs.size)
   repeat (any_goals (first | assumption | wp_step))
   refine codeAny_mono (codeAny_call_builtin (R:=wants (λr s₂=>r = .none/\∃h' tk,s₂={ s with heap:=h',toks:=tk }/\RS prog w h' s.heap.objs.size (qcd (λi=>ns.getD i 0) its.size) /\
    (∀b o,b<s.heap.objs.size->s.heap.get? b=some o->h'.get? b=some o)) E) F.called_set.init.plain F.entry_set_init (check_set_init_1 ty ?_)) λr₂ s₂ hr₂=>?_
   .obtain⟨⟨oc,od,ot,osl⟩,e0,ec,nl,ed⟩:=hl
    simp only at ec ed;subst ec ed;have e1:(s.heap.push (qdi (!w.params.followText "set-order"))).get? l=some ⟨.type "list",od,.seq its nl,osl⟩:=ydu _ e0;have q1:=F.sub_list_set;have q2:=F.sub_list_frozenset;have q3:(Value.type "list" == Value.type "dict")=false:=by decide
    have il:(s.heap.push (qdi (!w.params.followText "set-order"))).IsList l its:=⟨_,e1,rfl,nl,rfl⟩;unfold Builtin.«set.__init__» noKeywords Builtin.Frozenset.updateFrom;generalize pI:pyIter=PIt
    wp_walk
    subst pI;refine wpAny_pyIter_list il (wpAny_bind (wpAny_runValue ?_));have hlt:l<s.heap.objs.size:=ydv e0;have hh3:A.in1.in1.in1.handled=none:=by simp[hh]
    have ne1:l≠(s.heap.push (qdi (!w.params.followText "set-order"))).objs.size:=by
     rw[ydw];exact ydx (ydy hlt)
    have ne2:s.heap.objs.size∉[(s.heap.push (qdi (!w.params.followText "set-order"))).objs.size,l]:=by
     rw[ydw];simp only[ybf,ydz,or_false,not_or];exact And.intro (ydx (ycy _)) (yea hlt)
    refine qlA ((Walks.list hh3 _ l ne1 its).toS) s.heap.objs.size ne2 (λi=>ns.getD i 0) (λi v e=>IntsAre.int_at hi i v (by rw[ydb];exact e)) room (its.size-0) 0 _ (by omega) (ybz _)
     ⟨⟨_,ydt _ rfl,rfl,rfl⟩,il.push _⟩ (qoo (ydu _ g0)) ?_
    intro s' mv r';obtain⟨h',g',d',tk',os'⟩:=s';have eg:g'=s.gens:=mv.gens;have ed:d'=s.drawn:=mv.drawn;have eo:os'=s.os:=mv.os;subst eg ed eo;refine wpAny_pure (wpAny_pure ⟨rfl,h',tk',rfl,r',λb o hb e=>?_⟩);refine mv.heap b o ?_ (ydu _ (ydu _ e));rw[ydw];simp only[ybf,ydz,or_false,not_or];exact And.intro (ydx hb) (ydx (ydy hb))
   .cases r₂ with
    | error e=>exact hr₂
    | ok fl₂ =>
     cases fl₂ with
     | ret r =>
      obtain⟨rfl,h',tk,rfl,r',kp⟩:=hr₂
      repeat (any_goals (first | assumption | wp_step))
      exact h _ _ r' kp
     | _=>exact hr₂.elim
  | _=>exact hr.elim
end
end STb
namespace STb
open PySem PySem.SetTable PyProof.Rows
theorem qbq:Slot "set_iterator" "__next__" "set_iterator.__next__" :=
 Slot.of (owner := "set_iterator") (n := "__next__") (by(rw[typeLookup_type,builtinLookup_eq_fast]);kernel_rfl) (by decide +kernel) (by decide +kernel) (by decide +kernel) (by first | (exact Or.inl (by decide +kernel)) | (exact Or.inr (by decide +kernel))) (by(rw[isSubtype_type]);kernel_rfl)
theorem qe4:entryFor table "set_iterator.__next__" = some Builtin.«set_iterator.__next__»:=entryFor_of_tree (by kernel_rfl)
theorem qg7 (a:Value):argsOk "set_iterator.__next__" ⟨[a],[]⟩:=by unfold argsOk;kernel_rfl
theorem qkf:entryFor table "set.__iter__" = some Builtin.«frozenset.__iter__»:=entryFor_alias (id' := "frozenset.__iter__") (by kernel_rfl) (by decide +kernel) (by decide +kernel) (by kernel_rfl)
theorem qem {α:Type}:∀(l:List α) (i:Nat) (h:i<l.length),(l[i]::l.eraseIdx i).Perm l
 | [],i,h=>by cases h
 | x::r,0,h=>List.Perm.refl _
 | x::r,i+1,h=>(List.Perm.swap _ _ _).trans (List.Perm.cons _ (qem r i (yeb h)))
theorem qhW:typeLookup (.type "set") "__len__" = pure (some (.builtin "set.__len__")):=by(rw[typeLookup_type,builtinLookup_eq_fast]);kernel_rfl
theorem qiA:isSubtype (.type "set") (.type "set")=pure true:=by(rw[isSubtype_type]);kernel_rfl
theorem qlH {α:Type}(nx:Nat->Nat):∀(fuel k:Nat) (left:List α) (out:Array α),left.length=fuel->(pickOrder.go nx fuel k left out).toList.Perm (out.toList++left)
 | 0,k,left,out,h=>by
  rw[pickOrder.go];rw[yec.mp h,yed]
 | fuel+1,k,left,out,h=>by
  rw[pickOrder.go];have hlt:nx k%left.length<left.length:=yee _ (by omega);rw[yck hlt];dsimp only;refine(qlH nx fuel (k+1) _ _ (by rw[yef hlt];omega)).trans ?_;rw[ydj,ydk];refine List.Perm.append_left _ ?_;exact qem left _ hlt
theorem qfU {α:Type}(nx:Nat->Nat)(xs:Array α):(pickOrder nx xs).toList.Perm xs.toList:=by
 have:=qlH nx xs.size 0 xs.toList #[] (by simp);simpa[pickOrder] using this
section
variable {prog:Program}{w:World}{A:Around}{E:Value->Shared->Prop}{s:Shared}
theorem qlZ {src:Source}{n:Nat}{Q:Nat->Shared->Prop}(hn:n≠0)(h:∀i d,i<n->Q i { s with drawn:=d }):wpAny (model prog w) A (choose src n) Q E s :=
 λΓ p _=>⟨hn,h _ _ (yee _ (Nat.pos_of_ne_zero hn))⟩
theorem qlB:∀(n:Nat) (xs:List Nat) (s:Shared) (Q:List Nat->Shared->Prop),xs.length=n->(∀ys d,ys.Perm xs->Q ys { s with drawn:=d })->wpAny (model prog w) A (drawOrder n xs) Q E s
 | 0,xs,s,Q,h,q=>by
  rw[yec.mp h] at q⊢;exact wpAny_pure (q [] s.drawn (List.Perm.refl _))
 | n+1,[],s,Q,h,q=>by cases h
 | n+1,x::r,s,Q,h,q=>by
  refine wpAny_bind (m:=choose .order (x::r).length) (qlZ (by simp) λi d hi=>?_);rw[yck hi];dsimp only;refine wpAny_bind (qlB n ((x::r).eraseIdx i) _ _ (by rw[yef hi];simp at h⊢;exact h) λys d' hp=>?_);exact wpAny_pure (q _ d' ((List.Perm.cons _ hp).trans (qem _ _ hi)))
theorem qdK {Q:Bool->Shared->Prop}(h:Q (w.params.followText "set-order") s):wpAny (model prog w) A setsByText Q E s:=by
 unfold setsByText;exact wpAny_bind (wpAny_askSetting (wpAny_pure h))
end
end STb
namespace STb
open PySem PySem.SetTable PyProof.Rows
abbrev qja (first:Value)(i:Nat)(S:Addr)(n ep:Nat):Obj:={ cls := .type "set_iterator",data := .fields #[first,.int i 0,.ref S,.int n 0,.int ep 0] }
abbrev qeU (es:Array (Int×Value))(ep:Nat)(t:SetTable):Obj:={ cls := .type "set",dict:=none,data := .set es ep t }
section
variable {prog:Program}{w:World}{A:Around}{E:Value->Shared->Prop}{s:Shared}{I S:Addr}{es:Array (Int×Value)}{ep:Nat}{t:SetTable}
theorem qcj {Q:Array (Int×Value)->Shared->Prop}(ho:s.heap.get? S=some (qeU es ep t))(hf:t.fits es.size=true)(h:Q es s):wpAny (model prog w) A (setEntries S) Q E s:=by
 unfold setEntries;exact wpAny_bind (wpAny_setState_of ho rfl hf (wpAny_pure h))
end
end STb
namespace STb
open PySem PySem.SetTable PyProof.Rows
section
variable {prog:Program}{w:World}{A:Around}{E:Value->Shared->Prop}{s:Shared}{I S:Addr}{es:Array (Int×Value)}{ep:Nat}{t:SetTable}
theorem qlW {α:Type}{Q:α->Shared->Prop}{E':Value->Shared->Prop}(hh:A.handled=none)
 (h:∀h' e,(∀b o,s.heap.get? b=some o->h'.get? b=some o)->Shared.TypeIs { s with heap:=h' } (.ref e) "StopIteration" -> E' (.ref e) { s with heap:=h' }) :
 wpAny (model prog w) A (do raiseNew (<-newExc (.type "StopIteration") []):Sem α) Q E' s:=by
 refine wpAny_bind ?_;simp only[newExc,newTuple];refine wpAny_bind (wpAny_newObj_type ?_ (by size_fits));refine wpAny_bind (m:=firstArgMember _ _) (wpAny_of_eq (a:=Value.none) (by first | rfl | (simp only[firstArgMember];rfl)) ?_);refine wpAny_newObj_type ?_ (by size_fits);simp only[raiseNew];refine wpAny_bind (wpAny_handled ?_);rw[hh];refine wpAny_bind (wpAny_pure (wpAny_throw ?_));exact h _ _ (λb o e=>ydu _ (ydu _ e)) ⟨_,ydt _ rfl,rfl⟩
theorem qhU {slot:Nat}{i:Nat}{Q:Option Value->Shared->Prop}(hh:A.handled=none)(hI:s.heap.get? I=some (qja (.int slot 0) i S es.size ep))(hS:s.heap.get? S=some (qeU es ep t))(hf:t.fits es.size=true)
 (hn:∀(A':Around) (E':Value->Shared->Prop) (Q':Option (Value×Nat)->Shared->Prop),Q' none s->wpAny (model prog w) A' (setNext S slot i ep) Q' E' s)
 (h:∀h',(∀b o,b≠I->s.heap.get? b=some o->h'.get? b=some o)->Q none { s with heap:=h' }):wpAny (model prog w) A (pyNext (.ref I)) Q E s:=by
 have ty:s.TypeIs (.ref I) "set_iterator" := ⟨_,hI,rfl⟩;unfold pyNext;refine wpAny_bind (wpAny_attempt (wpAny_callSpecial?_slot (name:=Str.ofString "__next__") ty qbq (wpAny_call_entry qbq ty qe4 ?_ (qg7 _))));unfold Builtin.«set_iterator.__next__»;refine wpAny_bind (m:=slotArgs "__next__" 0 ⟨[.ref I],[]⟩) (wpAny_pure (wpAny_bind (wpAny_fieldsOf hI rfl ?_)));refine wpAny_bind (m:=setEntries S) (qcj hS hf ?_);rw[if_neg (by simp)];refine wpAny_bind (m:=setNext S (slot:Int).toNat (i:Int).toNat (ep:Int).toNat) (hn _ _ _ ?_);refine wpAny_bind (wpAny_setField hI rfl (by simp) ?_);refine qlW (by first | exact hh | simp[hh]) λh' e kp tye=>?_;refine wpAny_bind (wpAny_isInstance (T := "StopIteration") (b:=true) tye isSubtype_stop ?_);exact wpAny_pure (h _ λb o hb q=>kp b o ((yeg _ _ (Ne.symm hb)).trans q))
theorem qn2 {T:Addr}{qbJ:Array Value}{pn:Nat}{i p:Nat}{tk:Tok}{Q:Option Value->Shared->Prop}(hI:s.heap.get? I=some (qja (.ref T) i S es.size ep))(hT:s.heap.get? T=some { cls := .type "tuple",data := .seq qbJ pn })
 (hS:s.heap.get? S=some (qeU es ep t))(hf:t.fits es.size=true)(hp:qbJ[i]?=some (.int p tk)){x:Int×Value}(hx:es[p]?=some x)
 (h:∀h',h'.get? I=some (qja (.ref T) (i+1) S es.size ep)->Heap.SameBut I s.heap h'->Q (some x.2) { s with heap:=h' }):wpAny (model prog w) A (pyNext (.ref I)) Q E s:=by
 have ty:s.TypeIs (.ref I) "set_iterator" := ⟨_,hI,rfl⟩;unfold pyNext;refine wpAny_bind (wpAny_attempt (wpAny_callSpecial?_slot (name:=Str.ofString "__next__") ty qbq (wpAny_call_entry qbq ty qe4 ?_ (qg7 _))));unfold Builtin.«set_iterator.__next__»;refine wpAny_bind (m:=slotArgs "__next__" 0 ⟨[.ref I],[]⟩) (wpAny_pure (wpAny_bind (wpAny_fieldsOf hI rfl ?_)));refine wpAny_bind (m:=setEntries S) (qcj hS hf ?_);rw[if_neg (by simp)];refine wpAny_bind (m:=seqItems? (.ref T)) (wpAny_seqItems hT rfl ?_);dsimp only;rw[show qbJ[(i:Int).toNat]?=some (.int p tk) from hp];dsimp only;refine wpAny_bind (m:=setNextDrawn S (p:Int).toNat (ep:Int).toNat) ?_;unfold setNextDrawn;refine wpAny_bind (wpAny_setState_of hS rfl hf ?_);dsimp only;rw[if_neg (by simp),show es[(p:Int).toNat]?=some x from hx];refine wpAny_pure (wpAny_bind (wpAny_setField hI rfl (by simp) ?_));have g1:=ydr (Obj.mapFields (·.setIfInBounds 1 (rawInt ((i:Int)+1)))) hI rfl;exact wpAny_pure ⟨_,rfl,wpAny_pure (h _ g1 (Heap.SameBut.update ..))⟩
theorem qhq {T:Addr}{qbJ:Array Value}{pn:Nat}{i:Nat}{Q:Option Value->Shared->Prop}(hh:A.handled=none)(hI:s.heap.get? I=some (qja (.ref T) i S es.size ep))(hT:s.heap.get? T=some { cls := .type "tuple",data := .seq qbJ pn })
 (hS:s.heap.get? S=some (qeU es ep t))(hf:t.fits es.size=true)(hp:qbJ[i]?=none)
 (h:∀h',(∀b o,b≠I->s.heap.get? b=some o->h'.get? b=some o)->Q none { s with heap:=h' }):wpAny (model prog w) A (pyNext (.ref I)) Q E s:=by
 have ty:s.TypeIs (.ref I) "set_iterator" := ⟨_,hI,rfl⟩;unfold pyNext;refine wpAny_bind (wpAny_attempt (wpAny_callSpecial?_slot (name:=Str.ofString "__next__") ty qbq (wpAny_call_entry qbq ty qe4 ?_ (qg7 _))));unfold Builtin.«set_iterator.__next__»;refine wpAny_bind (m:=slotArgs "__next__" 0 ⟨[.ref I],[]⟩) (wpAny_pure (wpAny_bind (wpAny_fieldsOf hI rfl ?_)));refine wpAny_bind (m:=setEntries S) (qcj hS hf ?_);rw[if_neg (by simp)];refine wpAny_bind (m:=seqItems? (.ref T)) (wpAny_seqItems hT rfl ?_);dsimp only;rw[show qbJ[(i:Int).toNat]?=none from hp];dsimp only;refine wpAny_bind (wpAny_setField hI rfl (by simp) ?_);have g1:=ydr (Obj.mapFields (·.setIfInBounds 0 (rawInt 0))) hI rfl;refine wpAny_bind (wpAny_setField g1 rfl (by simp[Obj.mapFields]) ?_);refine qlW (by first | exact hh | simp[hh]) λh' e kp tye=>?_;refine wpAny_bind (wpAny_isInstance (T := "StopIteration") (b:=true) tye isSubtype_stop ?_);exact wpAny_pure (h _ λb o hb q=>kp b o ((yeg _ _ (Ne.symm hb)).trans ((yeg _ _ (Ne.symm hb)).trans q)))
theorem qeP {slot i:Nat}{Q:Option (Value×Nat)->Shared->Prop}(hS:s.heap.get? S=some (qeU es ep t))(hf:t.fits es.size=true)(bt:w.params.followText "set-order" = true)
 (h:Q (((pickOrder (w.params.setOrder S ep) es)[i]?).map λe=>(e.2,slot)) s):wpAny (model prog w) A (setNext S slot i ep) Q E s:=by
 unfold setNext;refine wpAny_bind (wpAny_setState_of hS rfl hf (wpAny_bind (qdK ?_)));rw[bt,if_pos rfl,if_neg (by simp)];refine wpAny_bind ?_;unfold setWalk;refine wpAny_bind (wpAny_setState_of hS rfl hf (wpAny_bind (qdK ?_)));rw[bt,if_pos rfl];exact wpAny_bind (wpAny_askSetting (wpAny_pure (wpAny_pure h)))
theorem qdW {slot i:Nat}{Q:Option (Value×Nat)->Shared->Prop}(hS:s.heap.get? S=some (qeU es ep t))(hf:t.fits es.size=true)(bt:w.params.followText "set-order" = false)(ld:t.led=true)(dr:(!t.plain&&decide (es.size>1))=false)
 (h:Q (match es[SetTable.below t.place slot]?,t.place[SetTable.below t.place slot]? with | some (_,x),some j=>some (x,j+1) | _,_=>none) s):wpAny (model prog w) A (setNext S slot i ep) Q E s:=by
 unfold setNext;refine wpAny_bind (wpAny_setState_of hS rfl hf (wpAny_bind (qdK ?_)));rw[bt,if_neg (by simp)];dsimp only;split
 .rename_i z
  exfalso;have z':(!t.plain&&decide (es.size>1))=true:=z;rw[dr] at z';cases z'
 .show wpAny (model prog w) A ((if (!t.led&&!es.isEmpty)=true then unsupported "set:maker-not-led" else pure ()) >>= λ_=>pure _) Q E s
  rw[ld,if_neg (by simp)];exact wpAny_bind (wpAny_pure (wpAny_pure h))
end
end STb
namespace STb
open PySem PySem.SetTable PyProof.Rows
section
variable {prog:Program}{w:World}{A:Around}{E:Value->Shared->Prop}{s:Shared}{I S:Addr}{es:Array (Int×Value)}{ep:Nat}{t:SetTable}
theorem qnJ {wr:List Addr}{h':Heap}(k:∀b o,b∉wr->s.heap.get? b=some o->h'.get? b=some o):Moved wr Eq s { s with heap:=h' }:=⟨k,rfl,rfl,rfl,yaz _⟩
theorem qm6 {first:Value}{i n:Nat}{Q:Value->Shared->Prop}(hI:s.heap.get? I=some (qja first i S n ep))(h:Q (.ref I) s):wpAny (model prog w) A (pyIter (.ref I)) Q E s:=by
 have ty:s.TypeIs (.ref I) "set_iterator" := ⟨_,hI,rfl⟩
 have sl:Slot "set_iterator" "__iter__" "set_iterator.__iter__" :=
  Slot.of (owner := "set_iterator") (n := "__iter__") (by(rw[typeLookup_type,builtinLookup_eq_fast]);kernel_rfl) (by decide +kernel) (by decide +kernel) (by decide +kernel) (by first | (exact Or.inl (by decide +kernel)) | (exact Or.inr (by decide +kernel))) (by(rw[isSubtype_type]);kernel_rfl)
 have en:entryFor table "set_iterator.__iter__" = some Builtin.«dict_keyiterator.__iter__»:=entryFor_alias (id' := "dict_keyiterator.__iter__") (by kernel_rfl) (by decide +kernel) (by decide +kernel) (by kernel_rfl);refine wpAny_pyIter_slot ty sl (wpAny_call_entry sl ty en ?_ (by unfold argsOk;kernel_rfl));unfold Builtin.«dict_keyiterator.__iter__»
 first
  | exact wpAny_bind (wpAny_pure (wpAny_pure ⟨_,rfl, "set_iterator",_,ty,qbq.lookup,h⟩))
  | exact wpAny_pure ⟨_,rfl, "set_iterator",_,ty,qbq.lookup,h⟩
theorem qjJ (hh:A.handled=none)(hIS:I≠S)(hf:t.fits es.size=true)(out:List Value)(ho:out.length=es.size)(ok:Nat->Nat->Prop)
 (hn:∀(s:Shared) (A':Around) (E':Value->Shared->Prop) (Q':Option (Value×Nat)->Shared->Prop) (i slot:Nat) (x:Value),s.heap.get? S=some (qeU es ep t)->ok i slot->out[i]?=some x ->
  ∃nx,ok (i+1) nx/\(Q' (some (x,nx)) s->wpAny (model prog w) A' (setNext S slot i ep) Q' E' s))
 (he:∀(s:Shared) (A':Around) (E':Value->Shared->Prop) (Q':Option (Value×Nat)->Shared->Prop) (slot:Nat),s.heap.get? S=some (qeU es ep t)->ok es.size slot->Q' none s->wpAny (model prog w) A' (setNext S slot es.size ep) Q' E' s) :
 WalksS prog w A I [I,S] [I] Eq es.size (λi v=>out[i]?=some v) (λi s=>(∃slot:Nat,s.heap.get? I=some (qja (.int (slot:Int) 0) i S es.size ep)/\ok i slot)/\s.heap.get? S=some (qeU es ep t)) where
 sub:=λb hb=>by simp at hb;simp[hb]
 grefl:=λ_=>rfl
 gtrans:=λ_ _ _ h1 h2=>h1.trans h2
 frame:=λi s h' tk st _ k=>by
  obtain⟨⟨slot,e,o⟩,e2⟩:=st;exact⟨⟨slot,k I (by simp) _ e,o⟩,k S (by simp) _ e2⟩
 item:=λi s Q E hi st q=>by
  obtain⟨⟨slot,e,o⟩,e2⟩:=st;have hx:out[i]?=some out[i]:=yck (by omega);obtain⟨nx,o',_⟩:=hn s A E (λ_ _=>True) i slot _ e2 o hx;have hn':∀(A':Around) (E':Value->Shared->Prop) (Q':Option (Value×Nat)->Shared->Prop),∃nx,ok (i+1) nx/\(Q' (some (out[i],nx)) s->wpAny (model prog w) A' (setNext S slot i ep) Q' E' s):=λA' E' Q'=>hn s A' E' Q' i slot _ e2 o hx;unfold pyNext;have ty:s.TypeIs (.ref I) "set_iterator" := ⟨_,e,rfl⟩;refine wpAny_bind (wpAny_attempt (wpAny_callSpecial?_slot (name:=Str.ofString "__next__") ty qbq (wpAny_call_entry qbq ty qe4 ?_ (qg7 _))));unfold Builtin.«set_iterator.__next__»;refine wpAny_bind (m:=slotArgs "__next__" 0 ⟨[.ref I],[]⟩) (wpAny_pure (wpAny_bind (wpAny_fieldsOf e rfl ?_)));refine wpAny_bind (m:=setEntries S) (qcj e2 hf ?_);rw[if_neg (by simp)];refine wpAny_bind (m:=setNext S (slot:Int).toNat (i:Int).toNat (ep:Int).toNat) ?_;obtain⟨nx,o',go⟩:=hn' _ _ _;refine go ?_;refine wpAny_bind (wpAny_setField e rfl (by simp) ?_);have g1:=ydr (Obj.mapFields (·.setIfInBounds 0 (rawInt nx))) e rfl;refine wpAny_bind (wpAny_setField g1 rfl (by simp[Obj.mapFields]) ?_);have g2:=ydr (Obj.mapFields (·.setIfInBounds 1 (rawInt ((i:Int)+1)))) g1 rfl
  have kp:∀b o,b≠I->s.heap.get? b=some o->((s.heap.update I (Obj.mapFields (·.setIfInBounds 0 (rawInt nx)))).update I (Obj.mapFields (·.setIfInBounds 1 (rawInt ((i:Int)+1))))).get? b=some o:=λb o hb z =>
   (yeg _ _ (Ne.symm hb)).trans ((yeg _ _ (Ne.symm hb)).trans z)
  exact wpAny_pure ⟨_,rfl,wpAny_pure (q _ _ hx ⟨⟨nx,g2,o'⟩,kp S _ (Ne.symm hIS) e2⟩ (qnJ λb o hb z=>kp b o (λy=>hb (by simp[y])) z))⟩
 done:=λs Q E st q=>by
  obtain⟨⟨slot,e,o⟩,e2⟩:=st;exact qhU hh e e2 hf (λA' E' Q' q'=>he s A' E' Q' slot e2 o q') λh' kp=>q _ (qnJ λb o hb z=>kp b o (λy=>hb (by simp[y])) z)
 self:=λi s Q E st q=>by
  obtain⟨⟨slot,e,o⟩,e2⟩:=st;exact qm6 e q
theorem qn1 {T:Addr}{qbJ:List Nat}{pn:Nat}(hh:A.handled=none)(hIS:I≠S)(hIT:I≠T)(hf:t.fits es.size=true)(out:List Value)(hl:qbJ.length=es.size)(ho:∀(i p:Nat),qbJ[i]?=some p->∃x,es[p]?=some x/\out[i]?=some x.2) :
 WalksS prog w A I [I,S,T] [I] Eq es.size (λi v=>out[i]?=some v) (λi s=>s.heap.get? I=some (qja (.ref T) i S es.size ep)/\s.heap.get? S=some (qeU es ep t)/\s.heap.get? T=some { cls := .type "tuple",data := .seq (qbJ.map λ(p:Nat)=>rawInt p).toArray pn }) where
 sub:=λb hb=>by simp at hb;simp[hb]
 grefl:=λ_=>rfl
 gtrans:=λ_ _ _ h1 h2=>h1.trans h2
 frame:=λi s h' tk st _ k=>by
  obtain⟨e,e2,e3⟩:=st;exact⟨k I (by simp) _ e,k S (by simp) _ e2,k T (by simp) _ e3⟩
 item:=λi s Q E hi st q=>by
  obtain⟨e,e2,e3⟩:=st;have hp:qbJ[i]?=some qbJ[i]:=yck (by omega);obtain⟨x,hx,hy⟩:=ho i _ hp;refine qn2 (p:=qbJ[i]) (tk:=0) e e3 e2 hf (by rw[List.getElem?_toArray,ycp,hp];rfl) hx λh' g sb=>?_;exact q _ _ hy ⟨g,sb.extBut _ _ (Ne.symm hIS) e2,sb.extBut _ _ (Ne.symm hIT) e3⟩ (qnJ λb o hb z=>sb.extBut b o (λy=>hb (by simp[y])) z)
 done:=λs Q E st q=>by
  obtain⟨e,e2,e3⟩:=st;exact qhq hh e e3 e2 hf (by simp[hl]) λh' kp=>q _ (qnJ λb o hb z=>kp b o (λy=>hb (by simp[y])) z)
 self:=λi s Q E st q=>qm6 st.1 q
end
end STb
namespace STb
open PySem PySem.SetTable PyProof.Rows
section
variable {prog:Program}{w:World}{A:Around}{E:Value->Shared->Prop}{s:Shared}{I S:Addr}{es:Array (Int×Value)}{ep:Nat}{t:SetTable}
theorem qnz {Q:Bool->Shared->Prop}(hS:s.heap.get? S=some (qeU es ep t))(hf:t.fits es.size=true)(h:Q (!w.params.followText "set-order" && (!t.plain&&decide (es.size>1))) s):wpAny (model prog w) A (setDrawn S) Q E s:=by
 unfold setDrawn;exact wpAny_bind (wpAny_setState_of hS rfl hf (wpAny_bind (qdK (wpAny_pure h))))
theorem qil:Slot "set" "__iter__" "set.__iter__" := PySem.F.slot_set_iter
theorem qqA {ns:List Int}{Q:Value->Shared->Prop}(hh:A.handled=none)(r:RS prog w s.heap S ns)
 (h:∀(I:Addr) (fp:List Addr) (n:Nat) (out:List Value) (ms:List Int) (St:Nat->Shared->Prop) (s':Shared),(∀A':Around,A'.handled=none->WalksS prog w A' I fp [I] Eq n (λi v=>out[i]?=some v) St)->St 0 s'->I∈fp->(∀b∈fp,b<s'.heap.objs.size)->(∀b∈fp,b=S\/s.heap.objs.size<=b)->s.heap.objs.size<=I ->
  IntsAre out ms->ms.Perm ns->out.length=n->(∀b o,s.heap.get? b=some o->s'.heap.get? b=some o)->s'.gens=s.gens->s'.os=s.os->s.toks<=s'.toks->Q (.ref I) s') :
 wpAny (model prog w) A (pyIter (.ref S)) Q E s:=by
 obtain⟨es,ep,t,hS,el,pm,bd,ft,rs,ld,nd⟩:=r;have ty:s.TypeIs (.ref S) "set" := ⟨_,hS,rfl⟩
 have intsOf:∀l:List (Int×Value),(∀e∈l,∃k,kI e.2=some k)->∃ms,IntsAre (l.map (·.2)) ms/\l.map (λe=>kI e.2)=ms.map some:=λl=>by
  induction l with
  | nil=>intro _;exact⟨[],.nil,rfl⟩
  | cons e l ih =>
   intro q;obtain⟨ms,a,b⟩:=ih λx hx=>q x (ybg _ hx);obtain⟨k,hk⟩:=q e ybd;obtain⟨hsh,v⟩:=e
   cases v<;>first
    | (rename_i m tk;cases hk;exact⟨_::ms,.cons _ _ a,by rw[ycg,ycg,b];rfl⟩)
    | cases hk
 have allk:∀e∈es.toList,∃k,kI e.2=some k:=λe he=>by
  obtain⟨⟨k,q,_⟩,_⟩:=el e he;exact⟨k,qqk.mp q⟩
 have perm:∀l:List (Int×Value),l.Perm es.toList->∃ms,IntsAre (l.map (·.2)) ms/\ms.Perm ns:=λl hp=>by
  obtain⟨ms,a,b⟩:=intsOf l λe he=>allk e (hp.mem_iff.mp he);refine⟨ms,a,?_⟩
  have q:(ms.map some).Perm (ns.map some):=by
   rw[<-b];exact(hp.map _).trans pm
  have q':=q.map (λo:Option Int=>o.getD 0);simpa[ycw,Function.comp_def] using q'
 have plc:t.place.size=es.size:=by
  simp only[SetTable.fits,yab,beq_iff_eq] at ft;exact ft.1
 refine wpAny_pyIter_slot ty qil (wpAny_call_entry qil ty qkf ?_ (PySem.F.args_set_iter_1 _));unfold Builtin.«frozenset.__iter__»;refine wpAny_bind (m:=Builtin.Frozenset.slot0 "__iter__" ⟨[.ref S],[]⟩) (wpAny_bind (wpAny_pure (wpAny_pure ?_)));refine wpAny_bind (m:=Builtin.Frozenset.sizeOf S) (wpAny_bind (qcj hS ft (wpAny_pure ?_)));refine wpAny_bind (m:=setDrawn S) (qnz hS ft ?_);have hlt:S<s.heap.objs.size:=ydv hS;cases bt:w.params.followText "set-order" with
 | true =>
  rw[if_neg (by simp)];refine wpAny_bind (wpAny_pure (wpAny_bind (wpAny_setEpoch_of hS rfl ft (wpAny_bind (wpAny_newObj_type (wpAny_pure ⟨_,rfl, "set_iterator",_,⟨_,ydt _ rfl,rfl⟩,qbq.lookup,?_⟩))))));obtain⟨ms,a,b⟩:=perm _ (qfU (w.params.setOrder S ep) es);have lo:((pickOrder (w.params.setOrder S ep) es).toList.map (·.2)).length=es.size:=by rw[ycd,(qfU _ _).length_eq,ydh]
  refine h s.heap.objs.size [s.heap.objs.size,S] es.size _ ms _ _ (λA' hA'=>qjJ (t:=t) (ep:=ep) hA' (yea hlt) ft _ lo (λ_ _=>True) (λs A' E' Q' i slot x e _ hx=>⟨slot,trivial,λq=>qeP e ft bt ?_⟩) λs A' E' Q' slot e _ q=>qeP e ft bt ?_)
   ⟨⟨0,ydt _ rfl,trivial⟩,ydu _ hS⟩ (by simp) (λb hb=>?_) (λb hb=>(ybf.mp hb).elim (λz => .inr (yeh z.symm)) λz => .inl (yei.mp z)) (yaz _) a b lo (λb o e=>ydu _ e) rfl rfl (yaz _)
  .rw[ycp,ydb] at hx
   cases z:(pickOrder (w.params.setOrder S ep) es)[i]? with
   | none=>rw[z] at hx;cases hx
   | some y=>rw[z] at hx;cases hx;exact q
  .rw[ydd (by rw[<-ydh,(qfU _ _).length_eq,ydh];exact yaz _)]
   exact q
  .rw[ydw]
   rcases ybf.mp hb with z | z
   .rw[z];exact ycy _
   .rw[yei.mp z];exact ydy hlt
 | false =>
  rw[bt] at ld;cases dr:(!t.plain&&decide (es.size>1)) with
  | false =>
   rw[if_neg (by simp)];refine wpAny_bind (wpAny_pure (wpAny_bind (wpAny_setEpoch_of hS rfl ft (wpAny_bind (wpAny_newObj_type (wpAny_pure ⟨_,rfl, "set_iterator",_,⟨_,ydt _ rfl,rfl⟩,qbq.lookup,?_⟩))))));obtain⟨ms,a,b⟩:=perm _ (List.Perm.refl _);have lo:(es.toList.map (·.2)).length=es.size:=by rw[ycd,ydh]
   refine h s.heap.objs.size [s.heap.objs.size,S] es.size _ ms _ _ (λA' hA'=>qjJ (t:=t) (ep:=ep) hA' (yea hlt) ft _ lo (λi slot=>SetTable.below t.place slot=i) (λs A' E' Q' i slot x e o hx=>?_) λs A' E' Q' slot e o q=>qdW e ft bt ld dr ?_)
    ⟨⟨0,ydt _ rfl,qkz rs⟩,ydu _ hS⟩ (by simp) (λb hb=>?_) (λb hb=>(ybf.mp hb).elim (λz => .inr (yeh z.symm)) λz => .inl (yei.mp z)) (yaz _) a b lo (λb o e=>ydu _ e) rfl rfl (yaz _)
   .rw[ycp,ydb] at hx
    have hi:i<es.size:=by
     rcases yag i es.size with z | z
     .exact z
     .rw[ydd z] at hx;cases hx
    have hp:t.place[i]?=some t.place[i]:=by simp[plc,hi]
    refine⟨t.place[i]+1,qj8 rs hp,λq=>qdW e ft bt ld dr ?_⟩;rw[o,hp];cases z:es[i]? with
    | none=>rw[z] at hx;cases hx
    | some y=>rw[z] at hx;cases hx;exact q
   .rw[o,ydd (yaz _)]
    exact q
   .rw[ydw]
    rcases ybf.mp hb with z | z
    .rw[z];exact ycy _
    .rw[yei.mp z];exact ydy hlt
  | true =>
   rw[if_pos (by simp)];refine wpAny_bind (qlB es.size (List.range es.size) s _ (by simp) λys d hp=>wpAny_bind ?_);have ly:ys.length=es.size:=by rw[hp.length_eq];simp
   refine wpAny_newTuple ?_ (by rw[ycd,ly];exact fits_of_scanBound bd);refine wpAny_bind (wpAny_setEpoch_of (o:=qeU es ep t) (ydu _ hS) rfl ft (wpAny_bind (wpAny_newObj_type (wpAny_pure ⟨_,rfl, "set_iterator",_,⟨_,ydt _ rfl,rfl⟩,qbq.lookup,?_⟩))));have hy:∀p∈ys,p<es.size:=λp hm=>ybj.mp (hp.mem_iff.mp hm)
   have pl:(ys.map λp=>es.getD p (0,.none)).Perm es.toList:=by
    have e:es.toList=(List.range es.size).map λp=>es.getD p (0,.none):=by
     refine yej (by simp) λi h1 h2=>?_;have:i<es.size:=by simpa using h1
     simp[Array.getD,this]
    rw[e];exact hp.map _
   obtain⟨ms,a,b⟩:=perm _ pl;have n1:(s.heap.push { cls:=Value.type "tuple",data:=Data.seq (ys.map λ(p:Nat)=>rawInt p).toArray }).objs.size=s.heap.objs.size+1:=ydw ..
   refine h _ [_,S,s.heap.objs.size] es.size _ ms _ _ (λA' hA'=>qn1 (T:=s.heap.objs.size) (pn:=0) (t:=t) (ep:=ep) hA' (by rw[n1];exact yea (ydy hlt)) (by rw[n1];exact yea (ycy _)) ft _ ly λi p hip=>?_)
    ⟨ydt _ rfl,ydu _ (ydu _ hS),ydu _ (ydt _ rfl)⟩ (by simp) (λb hb=>?_) (λb hb=>?_) (by rw[n1];exact ycx _) a b (by rw[ycd,ycd,ly]) (λb o e=>ydu _ (ydu _ e)) rfl rfl (yaz _)
   .have hm:=hy p (ycl hip)
    refine⟨es[p],by simp[hm],?_⟩;rw[ycp,ycp,hip];simp[Array.getD,hm]
   .rw[ydw,n1]
    simp only[ybf,ydz,or_false] at hb;rcases hb with z | z | z
    .rw[z]
     exact ybk (yeh n1) (ycy _)
    .rw[z];exact ydy (ydy hlt)
    .rw[z];exact ydy (ycy _)
   .simp only[ybf,ydz,or_false] at hb
    rcases hb with z | z | z
    .right
     rw[z,n1];exact ycx _
    .exact .inl z
    .exact .inr (yeh z.symm)
end
end STb
namespace STb
open PySem PySem.SetTable PyProof.Rows
section
variable {prog:Program}{w:World}{A:Around}{E:Value->Shared->Prop}{s:Shared}{I S:Addr}
theorem qgA {out:List Value}{n:Nat}(ho:out.length=n){acc:Array Value}(h:ItemsOf (λi v=>out[i]?=some v) acc n):acc.toList=out:=by
 refine List.ext_getElem? λi=>?_;rw[ydb];rcases yag i n with z | z
 .have hs:i<acc.size:=by rw[h.1];exact z
  have:=h.2 i acc[i] (by simp[hs]);rw[this];simp[hs]
 .rw[ydd (by rw[h.1];exact z),yek (by omega)]
theorem qi1 {ns:List Int}{Q:List Value->Shared->Prop}(hh:A.handled=none)(r:RS prog w s.heap S ns)
 (h:∀(s':Shared) (vs:List Value) (ms:List Int),IntsAre vs ms->ms.Perm ns->(∀b o,s.heap.get? b=some o->s'.heap.get? b=some o)->s.heap.objs.size<s'.heap.objs.size->s'.gens=s.gens->s'.os=s.os->Q vs s') :
 wpAny (model prog w) A (collect (.ref S)) Q E s:=by
 have hlen:=r.len
 have hSlt:S<s.heap.objs.size:=by
  obtain⟨es,ep,t,e,_⟩:=r;exact ydv e
 unfold collect;refine wpAny_bind (wpAny_runValue (codeAny_builtin F.entry_proto_collect ?_));rw[Around.under_plainId F.plain_proto_collect _];refine wpAny_bind (m:=newList []) (wpAny_newObj_type ?_);refine wpAny_pure ⟨plainId_quiet F.plain_list_iadd _,codeAny_builtin F.entry_list_iadd ?_⟩;rw[Around.under_plainId F.plain_list_iadd _];have r1:RS prog w (s.heap.push { cls := .type "list",data := .seq ([]:List Value).toArray }) S ns:=r.keep λo e=>ydu _ e
 have ty1:Shared.TypeIs { s with heap:=s.heap.push { cls := .type "list",data := .seq ([]:List Value).toArray } } (.ref S) "set" := by
  obtain⟨es,ep,t,e,_⟩:=r1;exact⟨_,e,rfl⟩
 show wpAny _ A.in1 (Builtin.List.listExtendWith (.ref s.heap.objs.size) (.ref S) (.ref s.heap.objs.size)) _ _ _;unfold Builtin.List.listExtendWith;refine wpAny_bind (wpAny_typeOf ty1 ?_)
 have d1:Builtin.List.listSameRef (.ref s.heap.objs.size) (.ref S)=false:=by
  simp only[Builtin.List.listSameRef,beq_eq_false_iff_ne,ne_eq];exact yea hSlt
 have d2:(Value.type "set" == Value.type "list")=false:=by decide
 have d3:(Value.type "set" == Value.type "tuple")=false:=by decide
 simp only[d1,d2,d3,yel,yem,if_false];have hh1:A.in1.handled=none:=by simp[hh]
 refine wpAny_bind (qqA hh1 r1 λI fp n out ms St s2 W st0 hI hfp hfs hge hi hp ho kp eg eo htk=>?_)
 have ty2:s2.TypeIs (.ref S) "set" := by
  obtain⟨es,ep,t,e,_⟩:=r1;exact⟨_,kp _ _ e,rfl⟩
 refine wpAny_bind (wpAny_holding ?_);unfold Builtin.List.listLengthHint;refine wpAny_bind (wpAny_specialOf ty2 qhW ?_);refine wpAny_bind (m:=isInstance (.ref S) (.type "set")) (wpAny_isInstance ty2 qiA ?_);simp only[Bool.not_true,yem,if_false];refine wpAny_ite_split (λ_=>?_) (λz=>absurd (by decide +kernel) z);refine wpAny_bind (wpAny_typeOf ty2 (wpAny_pure ?_));refine wpAny_ite_split (λ_=>?_) (λz=>absurd (by decide +kernel) z);refine wpAny_bind (wpAny_rule ?_);have g0:(s.heap.push { cls := .type "list",data := .seq ([]:List Value).toArray }).get? s.heap.objs.size=some { cls := .type "list",data := .seq ([]:List Value).toArray }:=ydt _ rfl;have g2:=kp _ _ g0
 have Iout:s.heap.objs.size<I:=by
  rw[ydw] at hge;exact hge
 refine wpAny_bind (m:=Builtin.List.listTouch (.ref s.heap.objs.size)) ?_;refine wpAny_bind (m:=updateSeq s.heap.objs.size (·.push .none)) (wpAny_updateSeq g2 rfl ?_);have g3:=ydr (Obj.mapSeq (·.push Value.none)) g2 rfl;refine wpAny_updateSeq g3 rfl ?_;have g4:=ydr (Obj.mapSeq (·.pop)) g3 rfl
 have oth:∀b o,b≠s.heap.objs.size->s2.heap.get? b=some o->((s2.heap.update s.heap.objs.size (Obj.mapSeq (·.push Value.none))).update s.heap.objs.size (Obj.mapSeq (·.pop))).get? b=some o :=
  λb o hb e=>(yeg _ _ (Ne.symm hb)).trans ((yeg _ _ (Ne.symm hb)).trans e)
 have hSf:s.heap.objs.size∉fp:=λz=>by
  rcases hfs _ z with y | y
  .exact absurd hSlt (by rw[<-y];exact yen _)
  .rw[ydw] at y
   exact yen _ y
 have W1:=W A.in1 (by simp[hh])
 have hn:n<=sizeLine:=by
  have e1:=hi.length;have e2:=hp.length_eq;have:=fits_of_scanBound hlen;omega
 refine wpAny_pure ⟨plainId_quiet F.plain_extend_loop _,codeAny_extend_loopS W1 hn _ hSf _ n 0 _ _ _ rfl (ybz _) (W1.frame 0 s2 _ s2.toks st0 (yaz _) λb hb o e=>oth b o (λz=>hSf (z▸hb)) e) g4 (ItemsOf.nil _) λs3 acc c mv gS hacc=>?_⟩;refine wpAny_bind (wpAny_load gS (wpAny_pure ?_));rw[qgA ho hacc];refine h s3 out ms hi hp (λb o e=>?_) (ydv gS) (mv.gens.symm.trans eg) (mv.os.trans eo);have hb:b≠s.heap.objs.size:=ydx (ydv e);have hbI:b≠I:=ydx (ybp (ydv e) Iout);exact mv.heap b o (by simp only[ybf,ydz,or_false,not_or];exact⟨hb,hbI⟩) (oth b o hb (kp b o (ydu _ e)))
end
end STb
namespace L2
open PySem PySem.Spec PyProof.Rows
abbrev Key:=Sum Int Str
def qko:Key->Value->Bool
 | .inl k,v=>Value.isInt k v
 | .inr x,v=>Value.isStrOf x v
def qu8 (w:World):Key->Int
 | .inl k=>hashInt k
 | .inr x=>hashStr w x
theorem qaT:∀{k:Key}{v:Value},qko k v=true->(∃i t,k=Sum.inl i/\v=Value.int i t)\/(∃x t,k=Sum.inr x/\v=Value.str x t)
 | .inl i,v,h=>by
  obtain⟨t,e⟩:=Value.isInt_shape (k:=i) (v:=v) h;exact .inl ⟨i,t,rfl,e⟩
 | .inr x,v,h=>by
  obtain⟨t,e⟩:=Value.isStrOf_shape (x:=x) (v:=v) h;exact .inr ⟨x,t,rfl,e⟩
theorem qmn (i:Int)(t:Tok):qko (.inl i) (.int i t)=true:=by simp[qko,Value.isInt]
theorem qmg (x:Str)(t:Tok):qko (.inr x) (.str x t)=true:=by simp[qko,Value.isStrOf]
theorem qsd (a b:Int):decide ((Sum.inl a:Key)=Sum.inl b)=(a==b):=by
 by_cases e:a=b
 .subst e;simp
 .have h:¬(Sum.inl a:Key)=Sum.inl b:=λq=>e (Sum.inl.inj q)
  rw[decide_eq_false h];exact(beq_eq_false_iff_ne.mpr e).symm
theorem qr4 (a b:Str):decide ((Sum.inr a:Key)=Sum.inr b)=decide (a=b):=by
 by_cases e:a=b
 .subst e;simp
 .have h:¬(Sum.inr a:Key)=Sum.inr b:=λq=>e (Sum.inr.inj q)
  rw[decide_eq_false h,decide_eq_false e]
theorem qso (a:Int)(b:Str):decide ((Sum.inl a:Key)=Sum.inr b)=false:=decide_eq_false (λq=>nomatch q)
theorem qtf (a:Str)(b:Int):decide ((Sum.inr a:Key)=Sum.inl b)=false:=decide_eq_false (λq=>nomatch q)
def qaW (prog:Program)(w:World):PySem.KeyKind prog w Key where
 is:=qko
 hash:=qu8 w
 inj:=λv a b ha hb=>by
  rcases qaT ha with⟨i,t,rfl,rfl⟩ | ⟨x,t,rfl,rfl⟩
  .rcases qaT hb with⟨j,u,rfl,e⟩ | ⟨y,u,rfl,e⟩
   .injection e with e1 _;rw[e1]
   .exact nomatch e
  .rcases qaT hb with⟨j,u,rfl,e⟩ | ⟨y,u,rfl,e⟩
   .exact nomatch e
   .injection e with e1 _;rw[e1]
 byValue:=λk v h=>by
  rcases qaT h with⟨i,t,rfl,rfl⟩ | ⟨x,t,rfl,rfl⟩<;>rfl
 pyHash:=λhv h=>by
  rcases qaT hv with⟨i,t,rfl,rfl⟩ | ⟨x,t,rfl,rfl⟩
  .exact wpAny_pyHash_int h
  .exact wpAny_pyHash_str h
 eqBool:=λhu hv h=>by
  rcases qaT hu with⟨i,t,rfl,rfl⟩ | ⟨x,t,rfl,rfl⟩
  .rcases qaT hv with⟨j,u,rfl,rfl⟩ | ⟨y,u,rfl,rfl⟩
   .rw[qsd] at h;exact wpAny_eqBool_int h
   .rw[qso] at h;exact SeqAt.EqAt.int_str i t y u _ _ _ _ h
  .rcases qaT hv with⟨j,u,rfl,rfl⟩ | ⟨y,u,rfl,rfl⟩
   .rw[qtf] at h;exact SeqAt.EqAt.str_int x t j u _ _ _ _ h
   .rw[qr4] at h;exact wpAny_eqBool_str h
 «strs»:=λk x t v h=>by
  rcases qaT h with⟨i,u,rfl,e⟩ | ⟨y,u,rfl,e⟩
  .exact nomatch e
  .injection e with e1 _
   subst e1;cases v<;>rfl
theorem qi6 (prog:Program)(w:World)(i:Int)(t:Tok):(qaW prog w).is (.inl i) (.int i t)=true:=qmn i t
theorem qiS (prog:Program)(w:World)(x:Str)(t:Tok):(qaW prog w).is (.inr x) (.str x t)=true:=qmg x t
end L2
namespace L2
open PySem PySem.Spec PyProof.Rows
inductive V where
 | non | bl (b:Bool) | int (i:Int) | str (x:Str) | byt (b:Array UInt8) | flt (b:UInt64) | ref (a:Addr) | ty (n:String)
 deriving DecidableEq
def qbc:V->Value->Prop
 | .non,u=>u=Value.none
 | .bl b,u=>u=Value.bool b
 | .int i,u=>∃t,u=Value.int i t
 | .str x,u=>∃t,u=Value.str x t
 | .byt b,u=>∃t,u=Value.bytes b t
 | .flt b,u=>∃t,u=Value.float b t
 | .ref a,u=>u=Value.ref a
 | .ty n,u=>u=Value.type n
abbrev qaN:List V->List Value->Prop:=Paired qbc
theorem qaN.length {xs:List V}{us:List Value}(r:qaN xs us):xs.length=us.length:=Paired.length r
theorem qaN.get:∀{xs:List V}{us:List Value}{i:Nat}{x:V},qaN xs us->xs[i]?=some x->∃u,us[i]?=some u/\qbc x u
 | _,_,_,_,.nil,e=>by simp at e
 | _,_,0,_,.cons r _,e=>by simp at e;subst e;exact⟨_,rfl,r⟩
 | _,_,i+1,x,.cons _ t,e=>by
  obtain⟨u,h1,h2⟩:=qaN.get (i:=i) (x:=x) t (by simpa using e);exact⟨u,by simpa using h1,h2⟩
theorem qaN.set {x:V}{u:Value}(r:qbc x u):∀{xs:List V}{us:List Value}(i:Nat),qaN xs us->qaN (xs.set i x) (us.set i u)
 | _,_,_,.nil => .nil
 | _,_,0,.cons _ t => .cons r t
 | _,_,i+1,.cons q t => .cons q (qaN.set r i t)
theorem qaN.append:∀{xs ys:List V}{us ws:List Value},qaN xs us->qaN ys ws->qaN (xs++ys) (us++ws)
 | _,_,_,_,.nil,s=>s
 | _,_,_,_,.cons r t,s => .cons r (qaN.append t s)
theorem qaN.take:∀{xs:List V}{us:List Value}(n:Nat),qaN xs us->qaN (xs.take n) (us.take n)
 | _,_,0,_ => .nil
 | _,_,_+1,.nil => .nil
 | _,_,n+1,.cons r t => .cons r (qaN.take n t)
theorem qaN.drop:∀{xs:List V}{us:List Value}(n:Nat),qaN xs us->qaN (xs.drop n) (us.drop n)
 | _,_,0,r=>r
 | _,_,_+1,.nil => .nil
 | _,_,n+1,.cons _ t=>qaN.drop n t
def qir:Option V->Option Value->Prop
 | some v,some u=>qbc v u
 | none,none=>True
 | _,_=>False
def KV {κ:Type}:List (κ×V)->List (κ×Value)->Prop:=Paired λ(p:κ×V) (q:κ×Value)=>p.1=q.1/\qbc p.2 q.2
def kV:Key->V
 | .inl i => .int i
 | .inr x => .str x
inductive HO where
 
 | lst (xs:List V)
 
 | tup (xs:List V)
 
 | dK (kvs:List (Key×V)) | dT (kvs:List (List Key×V))
 
 | set (S:Int->Bool) (n:Nat)
 
 | ins (C dx:Addr) (fs:List (Str×V))
 
 | own (x:Addr)
 
 | xd (fs:List (Str×V))
 
 | met (f x:Addr)
 
 | rng (lo hi:Int)
 
 | frz (o:Obj) (u:HO)
 
 | tbl (ps:Array Value)
 
 | ext (φ:Heap->Prop)
abbrev Hp:=Addr->Option HO
def upd (H:Hp)(a:Addr)(o:HO):Hp:=λb=>if b=a then some o else H b
theorem qag {H:Hp}{a:Addr}{o:HO}:upd H a o a=some o:=by unfold upd;rw[if_pos rfl]
theorem qay {H:Hp}{a b:Addr}{o:HO}(h:b≠a):upd H a o b=H b:=by unfold upd;rw[if_neg h]
theorem qmu {H:Hp}{a:Addr}{o u:HO}:upd (upd H a o) a u=upd H a u:=by
 funext b;unfold upd;split<;>rfl
theorem qtC {H:Hp}{a b:Addr}{o u:HO}(h:H a=some o)(h':H b=some u)(d:o≠u):a≠b:=by
 intro e;subst e;rw[h] at h';exact d (Option.some.inj h')
theorem qaV {H:Hp}{a b:Addr}{o:HO}(h:H a=some o)(h':H b=none):a≠b:=by
 intro e;subst e;rw[h] at h';cases h'
section
variable (P:Program)(w:World)
def qbu (H:Hp)(h:Heap)(a:Addr):HO->Prop
 | .lst xs=>xs.length<=sizeLine/\∃(its:List Value) (n:Nat),qaN xs its/\h.get? a=some { cls := .type "list",data := .seq its.toArray n }
 | .tup xs=>xs.length<=sizeLine/\∃its:List Value,qaN xs its/\IsTup h a its.toArray
 | .dK kvs=>kvs.length<=sizeLine/\(a==sysModules)=false/\∃vs,KV kvs vs/\h.DictOf (qaW P w) a vs
 | .dT kvs=>kvs.length<=sizeLine/\(a==sysModules)=false/\∃xs:List (List Key×Addr×Value),
  Paired (λ(p:List Key×V) (q:List Key×Addr×Value)=>p.1=q.1/\H q.2.1=some (.tup (p.1.map kV))/\qbc p.2 q.2.2) kvs xs /\
  ∃o es ep,h.get? a=some o/\o.ExactDict/\o.data = .dict es ep/\es.toList=xs.map (entryOfKey (tupleKind (qaW P w)))/\(xs.map (·.1)).Nodup
 | .set S n=>h.SetOf (intKind P w) a S n
 | .ins C dx fs=>H dx=some (.own a)/\fs.length<=1000/\dx≠a/\h.get? a=some (PySem.W.instObj C dx) /\
  ∃mA,h.Ns1 dx mA/\(∀f,qir (fs.lookup f) (mA f))/\PySem.Within mA (fs.map (·.1))
 | .own _=>∃o,h.get? a=some o
 | .xd fs=>∃mA,h.Ns1 a mA/\∀f,qir (fs.lookup f) (mA f)
 | .rng lo hi=>∃t u v,h.get? a=some { cls := .type "range",data := .fields #[.int lo t,.int hi u,.int 1 v] }
 | .frz o u=>h.get? a=some o/\qbu H h a u
 | .tbl ps=>h.get? a=some { cls := .none,data := .fields ps }
 | .met f x=>h.get? a=some (PySem.W.methodObj (.ref f) (.ref x))
 | .ext φ=>φ h/\(∃o,h.get? a=some o)/\∀h1 h2:Heap,φ h1->(∀o,h1.get? a=some o->h2.get? a=some o)->φ h2
def HOk (H:Hp)(h:Heap):Prop:=∀a o,H a=some o->qbu P w H h a o
end
section
variable {P:Program}{w:World}{H H':Hp}{h h':Heap}{a:Addr}{o:HO}
theorem qbu.lt (x:qbu P w H h a o):a<h.objs.size:=by
 cases o with
 | lst xs=>obtain⟨_,_,_,_,e⟩:=x;exact ydv e
 | tup xs=>obtain⟨_,_,_,p⟩:=x;exact p.lt
 | dK kvs=>obtain⟨_,_,_,_,o,_,_,e,_⟩:=x;exact ydv e
 | dT kvs=>obtain⟨_,_,_,_,o,_,_,e,_⟩:=x;exact ydv e
 | set S n=>obtain⟨o,_,_,_,e,_⟩:=x;exact ydv e
 | ins C dx fs=>obtain⟨_,_,_,e,_⟩:=x;exact ydv e
 | own y=>obtain⟨_,e⟩:=x;exact ydv e
 | xd fs=>obtain⟨_,⟨_,_,_,e,_⟩,_⟩:=x;exact ydv e
 | rng lo hi=>obtain⟨_,_,_,e⟩:=x;exact ydv e
 | frz ob u=>obtain⟨e,_⟩:=x;exact ydv e
 | tbl ps=>exact ydv (show h.get? a=some _ from x)
 | met f y=>exact ydv (show h.get? a=some _ from x)
 | ext φ=>obtain⟨_,⟨_,e⟩,_⟩:=x;exact ydv e
theorem Paired.mapP {α β:Type}{F G:α->β->Prop}:∀{l₁:List α}{l₂:List β},Paired F l₁ l₂->(∀a b,F a b->G a b)->Paired G l₁ l₂
 | _,_,.nil,_ => .nil
 | _,_,.cons r t,f => .cons (f _ _ r) (Paired.mapP t f)
theorem qbu.stay (x:qbu P w H h a o)(k:∀b u,(b=a\/H b=some (.own a))->h.get? b=some u->h'.get? b=some u)
 (ho:∀b,H b=some (.own a)->H' b=some (.own a))(ht:∀b xs,H b=some (.tup xs)->H' b=some (.tup xs)):qbu P w H' h' a o:=by
 induction o with
 | lst xs=>obtain⟨z,its,n,r,e⟩:=x;exact⟨z,its,n,r,k _ _ (.inl rfl) e⟩
 | tup xs=>obtain⟨z,its,r,ob,e,c⟩:=x;exact⟨z,its,r,ob,k _ _ (.inl rfl) e,c⟩
 | dK kvs=>obtain⟨z,y,vs,r,ob,es,ep,e,c⟩:=x;exact⟨z,y,vs,r,ob,es,ep,k _ _ (.inl rfl) e,c⟩
 | dT kvs =>
  obtain⟨z,y,xs,r,ob,es,ep,e,c⟩:=x;exact⟨z,y,xs,Paired.mapP r λp q z=>⟨z.1,ht _ _ z.2.1,z.2.2⟩,ob,es,ep,k _ _ (.inl rfl) e,c⟩
 | set S n=>obtain⟨ob,es,ep,t,e,c⟩:=x;exact⟨ob,es,ep,t,k _ _ (.inl rfl) e,c⟩
 | ins C dx fs =>
  obtain⟨d,z,ne,e,mA,⟨od,es,ep,e2,c⟩,r⟩:=x;exact⟨ho _ d,z,ne,k _ _ (.inl rfl) e,mA,⟨od,es,ep,k _ _ (.inr d) e2,c⟩,r⟩
 | own y=>obtain⟨ob,e⟩:=x;exact⟨ob,k _ _ (.inl rfl) e⟩
 | xd fs=>obtain⟨mA,⟨od,es,ep,e,c⟩,r⟩:=x;exact⟨mA,⟨od,es,ep,k _ _ (.inl rfl) e,c⟩,r⟩
 | rng lo hi=>obtain⟨t,u,v,e⟩:=x;exact⟨t,u,v,k _ _ (.inl rfl) e⟩
 | frz ob u ih=>obtain⟨e,q⟩:=x;exact⟨k _ _ (.inl rfl) e,ih q⟩
 | tbl ps =>
  have e:h.get? a=some { cls := .none,data := .fields ps }:=x;show h'.get? a=some { cls := .none,data := .fields ps };exact k a _ (.inl rfl) e
 | met f y =>
  have e:h.get? a=some (PySem.W.methodObj (.ref f) (.ref y)):=x;show h'.get? a=some (PySem.W.methodObj (.ref f) (.ref y));exact k a _ (.inl rfl) e
 | ext φ=>obtain⟨p,⟨o,e⟩,st⟩:=x;exact⟨st _ _ p λo q=>k _ _ (.inl rfl) q,⟨o,k _ _ (.inl rfl) e⟩,st⟩
theorem HOk.lt (x:HOk P w H h)(e:H a=some o):a<h.objs.size:=(x a o e).lt
theorem HOk.fresh (x:HOk P w H h)(e:h.objs.size<=a):H a=none:=by
 cases q:H a with
 | none=>rfl
 | some u=>exact absurd (yae (x.lt q) e) (yen _)
theorem HOk.kept (x:HOk P w H h) (k:∀b u,h.get? b=some u->h'.get? b=some u):HOk P w H h':=λa o e =>
 (x a o e).stay (λb u _ q=>k b u q) (λ_ q=>q) λ_ _ q=>q
theorem HOk.laid (x:HOk P w H h)(k:∀b u,h.get? b=some u->h'.get? b=some u)(hp:h.objs.size<=a)(new:qbu P w (upd H a o) h' a o):HOk P w (upd H a o) h':=λb u e=>by
 have hn:=x.fresh hp;by_cases hb:b=a
 .subst hb;rw[qag] at e;cases e;exact new
 .rw[qay hb] at e
  exact(x b u e).stay (λc v _ q=>k c v q) (λc q=>by rw[qay (qaV q hn)];exact q) λc xs q=>by rw[qay (qaV q hn)];exact q
end
def Rd (H:Hp)(a:Addr)(u:HO):Prop:=H a=some u\/∃o,H a=some (.frz o u)
theorem Rd.ok {P:Program}{w:World}{H:Hp}{h:Heap}{a:Addr}{u:HO}(r:Rd H a u)(x:HOk P w H h):qbu P w H h a u:=by
 rcases r with r | ⟨o,r⟩
 .exact x a u r
 .obtain⟨_,q⟩:=x a _ r
  exact q
def Mut:Option HO->Prop
 | some (.lst _)=>True
 | some (.dK _)=>True
 | some (.dT _)=>True
 | some (.set _ _)=>True
 | some (.ins _ _ _)=>True
 | some (.ext _)=>True
 | _=>False
section
variable {P:Program}{w:World}{H:Hp}{h h':Heap}{x e:Addr}{o':HO}
theorem HOk.write (ok:HOk P w H h)(mu:Mut (H x))(he:e=x\/H e=some (.own x))(k:∀b u,b≠e->h.get? b=some u->h'.get? b=some u)(heo:∃u,h'.get? e=some u)
 (new:qbu P w (upd H x o') h' x o'):HOk P w (upd H x o') h':=λb u q=>by
 have nown:∀c y,H c=some (.own y)->c≠x:=λc y r z=>by subst z;rw[r] at mu;exact mu
 have ntup:∀c xs,H c=some (.tup xs)->c≠x:=λc xs r z=>by subst z;rw[r] at mu;exact mu
 by_cases hb:b=x
 .subst hb;rw[qag] at q;cases q;exact new
 .rw[qay hb] at q
  by_cases hbe:b=e
  .have q':H b=some (.own x):=by
    rcases he with z | z
    .exact absurd (hbe.trans z) hb
    .rw[hbe];exact z
   rw[q] at q';cases q';obtain⟨v,hv⟩:=heo;exact⟨v,by rw[hbe];exact hv⟩
  .refine(ok b u q).stay (λc v hc r=>k c v ?_ r) (λc r=>by rw[qay (nown c b r)];exact r) λc xs r=>by rw[qay (ntup c xs r)];exact r
   rcases hc with rfl | hc
   .exact hbe
   .rintro rfl
    rcases he with z | z
    .exact nown c b hc z
    .rw[hc] at z;cases z;exact hb rfl
end
structure Un (fs ex:List Addr)(H H':Hp)(h h':Heap):Prop where
 keep:∀b o,h.get? b=some o->H b=none->b∉fs->b∉ex->h'.get? b=some o
 slot:∀b o,h.get? b=some o->H b=none->b∈fs->b∉ex->∃sl,h'.get? b=some { o with slots:=sl }
 free:∀b o,h.get? b=some o->H b=none->b∉ex->H' b=none
 there:∀b o,h.get? b=some o->b∉ex->∃o',h'.get? b=some o'
 tups:∀b xs,H b=some (.tup xs)->H' b=some (.tup xs)
 frzs:∀b o u,H b=some (.frz o u)->H' b=some (.frz o u)
 tbls:∀b ps,H b=some (.tbl ps)->∃qjB,H' b=some (.tbl (ps++qjB))
section
variable {fs fs' ex ex':List Addr}{H H1 H2:Hp}{h h1 h2 h':Heap}{a x e:Addr}{o:HO}
theorem Un.any (u:Un fs ex H H1 h h1){b:Addr}{ob:Obj}(q:h.get? b=some ob)(n:H b=none)(hx:b∉ex):∃sl,h1.get? b=some { ob with slots:=sl }:=by
 by_cases hb:b∈fs
 .exact u.slot b ob q n hb hx
 .exact⟨ob.slots,u.keep b ob q n hb hx⟩
theorem Un.kept (k:∀b u,h.get? b=some u->h'.get? b=some u):Un fs ex H H h h' :=
 ⟨λb ob q _ _ _=>k b ob q,λb ob q _ _ _=>⟨ob.slots,k b ob q⟩,λ_ _ _ n _=>n,λb ob q _=>⟨ob,k b ob q⟩,λ_ _ q=>q,λ_ _ _ q=>q,λ_ ps q=>⟨#[],by rw[q];simp⟩⟩
theorem Un.refl:Un fs ex H H h h:=Un.kept λ_ _ q=>q
theorem Un.laid (k:∀b u,h.get? b=some u->h'.get? b=some u)(hp:h.objs.size<=a)(hn:H a=none):Un fs ex H (upd H a o) h h' where
 keep:=λb u q _ _ _=>k b u q
 slot:=λb u q _ _ _=>⟨u.slots,k b u q⟩
 free:=λb u q n _=>by rw[qay (ydx (yae (ydv q) hp))];exact n
 there:=λb u q _=>⟨u,k b u q⟩
 tups:=λb xs q=>by rw[qay (qaV q hn)];exact q
 frzs:=λb u xs q=>by rw[qay (qaV q hn)];exact q
 tbls:=λb ps q=>⟨#[],by rw[qay (qaV q hn),q];simp⟩
theorem Un.write (mu:Mut (H x))(he:e=x\/H e=some (.own x))(k:∀b u,b≠e->h.get? b=some u->h'.get? b=some u)(heo:∃u,h'.get? e=some u):Un fs ex H (upd H x o) h h':=by
 have hx:∀b,H b=none->b≠x:=λb n z=>by subst z;rw[n] at mu;exact mu
 have hb:∀b,H b=none->b≠e:=λb n z=>by
  subst z;rcases he with r | r
  .exact hx b n r
  .rw[n] at r;cases r
 have hm:∀b u,H b=some u->¬Mut (some u)->b≠x:=λb u q nm z=>by subst z;rw[q] at mu;exact nm mu
 refine⟨λb u q n _ _=>k b u (hb b n) q,λb u q n _ _=>⟨u.slots,k b u (hb b n) q⟩,λb u q n _=>by rw[qay (hx b n)];exact n,λb u q _=>?_,
  λb xs q=>by rw[qay (hm b _ q λz=>z)];exact q,λb u xs q=>by rw[qay (hm b _ q λz=>z)];exact q,λb ps q=>⟨#[],by rw[qay (hm b _ q λz=>z),q];simp⟩⟩
 by_cases hbe:b=e
 .subst hbe;exact heo
 .exact⟨u,k b u hbe q⟩
end
def trk (h:Heap)(H:Hp):List Addr:=(List.range h.objs.size).filter λa=>(H a).isSome
def qor (h:Heap)(H:Hp):Heap:=PySem.W.hideAll h (trk h H)
theorem qmZ (h:Heap)(H:Hp):(qor h H).objs.size=h.objs.size:=PySem.W.hideAll_size _ _
theorem qoD {h:Heap}{H:Hp}{b:Addr}{o:Obj}(e:h.get? b=some o)(n:H b=none):(qor h H).get? b=some o :=
 PySem.W.hideAll_get _ e λhm=>by
  have q:(H b).isSome=true:=(yba.mp hm).2;rw[n] at q;simp at q
theorem qpM {h:Heap}{H:Hp}{b:Addr}{o:Obj}(e:(qor h H).get? b=some o):h.get? b=some o/\H b=none:=by
 have e':h.get? b=some o:=PySem.W.of_hideAll (trk h H) e;refine⟨e',?_⟩;cases q:H b with
 | none=>rfl
 | some x =>
  have hm:b∈trk h H:=yba.mpr ⟨ybj.mpr (ydv e'),by simp[q]⟩;have z:(qor h H).get? b=none:=PySem.W.hideAll_none (trk h H) hm;rw[z] at e;cases e
def qq1 (g h:Heap)(L:Addr):List (Addr×Obj):=(List.range h.objs.size).filterMap λa=>if a=L\/(g.get? a).isSome=true then none else (h.get? a).map λo=>(a,o)
def qiW (g h:Heap)(L d:Addr):List (Addr×Obj):=(qq1 g h L).filter λp=>decide (p.1≠d)
end L2
namespace L2
open PySem PySem.Spec PyProof.Rows
structure Mod (K:PySem.W.Frag)(mg:Str->Option Value)(base:Heap):Prop where
 kin:K.In base
 glob:base.Ns mainGlobals mg
 blt:∃mb,base.Ns builtinsNs mb/\∀x:Str,x ≠ "__name__" -> mb x=bootBuiltins x
 nolimit:base.NoLimit
structure Cx where
 prog:Program
 w:World
 K:PySem.W.Frag
 mg:Str->Option Value
 base:Heap
 A:Around
 N:List Str
 s₀:Shared
 H₀:Hp
 env:Env
 outer:List Env
 stack:List Env
 ex:List Addr
 fn:Str->Bool
 calm:Bool
 pn:List (Addr×Obj)
 xe:Value->Shared->Prop
def frs (l:List Env):List Addr:=l.filterMap (·.frame)
abbrev Cx.fs (X:Cx):List Addr:=frs X.outer
def Vis (sc:Scope)(x:Str):Prop:=sc.names.lookup x=some .local\/sc.names.lookup x=some .cell\/sc.names.lookup x=some .free
def Loc (sc:Scope)(x:Str):Prop:=sc.names.lookup x=some .local\/sc.names.lookup x=some .cell
def qu1 (env:Env)(h:Heap)(m:Str->Option Value)(x:Str)(u:Value):Prop :=
 (env.kindOf x=some .local/\m x=some u)\/((env.kindOf x=some .cell\/env.kindOf x=some .free)/\∃c,env.cells.lookup x=some c/\h.IsCell c (some u))
structure Cx.Ok (X:Cx):Prop where
 mod:Mod X.K X.mg X.base
 kind:X.env.scope.kind = .function
 glob:X.env.globals=mainGlobals
 blt:X.env.builtins=builtinsNs
 above:X.s₀.heap.objs.size<=X.env.locals
 inj:∀x y c,X.env.cells.lookup x=some c->X.env.cells.lookup y=some c->x=y
 has:∀x,(X.env.kindOf x=some .cell\/X.env.kindOf x=some .free)->∃c,X.env.cells.lookup x=some c
 cab:∀x c,X.fn x=true->X.env.cells.lookup x=some c->X.s₀.heap.objs.size<=c
 hd:X.calm=true->X.A.handled=none
 frames:X.A.frames=some X.stack
 stk:X.stack=X.outer\/(X.stack=X.env::X.outer/\X.env.frame=some X.env.locals)
 exf:∀b∈X.ex,b≠X.env.locals/\∀x c,X.env.cells.lookup x=some c->c≠b
 bs:∀b o,X.base.get? b=some o->X.s₀.heap.get? b=some o/\X.H₀ b=none
 bsz:X.base.objs.size<=X.s₀.heap.objs.size
 noex:∀b o,X.base.get? b=some o->b∉X.ex
 exfs:∀b∈X.ex,b∉X.fs
 funs:X.s₀.heap.FunFrames X.base X.outer
 frf:∀b∈X.fs,X.H₀ b=none
structure Inv (X:Cx)(pins:List (Addr×Obj))(σ:List (Option V))(H:Hp)(s:Shared):Prop where
 ok:X.Ok
 os:s.os=X.s₀.os
 bare:AllBare s.gens
 base:Un X.fs X.ex X.H₀ H X.s₀.heap s.heap
 loc:∃m,s.heap.Ns X.env.locals m/\∀(i:Nat) (x:Str) (v:V),X.N[i]?=some x->σ[i]?=some (some v)->Vis X.env.scope x->∃u,qbc v u/\qu1 X.env s.heap m x u
 cell:∀x c,X.env.cells.lookup x=some c->∃v,s.heap.IsCell c v
 free:H X.env.locals=none
 freeC:∀x c,X.env.cells.lookup x=some c->H c=none
 pin:∀p∈X.pn++pins,s.heap.get? p.1=some p.2/\H p.1=none/\p.1≠X.env.locals/\p.1∉X.fs/\∀v,p.2.data ≠ .cell v
 hok:HOk X.prog X.w H s.heap
 len:σ.length=X.N.length
section
variable {X:Cx}{pins:List (Addr×Obj)}{σ:List (Option V)}{H H':Hp}{s:Shared}{h':Heap}
theorem Cx.Ok.nofr (ok:X.Ok){b:Addr}{o:Obj}(e:X.base.get? b=some o):b∉X.fs:=λhb=>by
 have:=(ok.funs.mem hb).1;rw[e] at this;cases this
theorem Inv.bs (I:Inv X pins σ H s):∀b o,X.base.get? b=some o->s.heap.get? b=some o/\H b=none:=λb o e =>
 ⟨I.base.keep b o (I.ok.bs b o e).1 (I.ok.bs b o e).2 (I.ok.nofr e) (I.ok.noex b o e),I.base.free b o (I.ok.bs b o e).1 (I.ok.bs b o e).2 (I.ok.noex b o e)⟩
theorem Inv.bk (I:Inv X pins σ H s):∀b o,X.base.get? b=some o->s.heap.get? b=some o:=λb o e=>(I.bs b o e).1
theorem Inv.mod (I:Inv X pins σ H s):Mod X.K X.mg X.base:=I.ok.mod
theorem Inv.kIn (I:Inv X pins σ H s):X.K.In s.heap:=I.ok.mod.kin.keeps I.bk
theorem Inv.fr (I:Inv X pins σ H s):∃m,Fr X.base X.env.locals s.heap m :=
 let ⟨m,hn,_⟩:=I.loc
 ⟨m,hn,I.bk,ybn I.ok.bsz I.ok.above⟩
theorem Inv.lt (I:Inv X pins σ H s):X.env.locals<s.heap.objs.size:=let ⟨_,hn,_⟩:=I.loc;hn.lt
theorem Inv.sz (I:Inv X pins σ H s):X.s₀.heap.objs.size<=s.heap.objs.size:=ybn I.ok.above (ydc I.lt)
theorem Inv.nofs (I:Inv X pins σ H s){a:Addr}(h:s.heap.objs.size<=a):a∉X.fs:=λhb=>by
 obtain⟨_,o,ho,_⟩:=I.ok.funs.mem hb;exact absurd (yae (ydv ho) (ybn I.sz h)) (yen _)
theorem Inv.cne (I:Inv X pins σ H s):∀x c,X.env.cells.lookup x=some c->c≠X.env.locals:=λx c e z=>by
 obtain⟨v,o,ho,hd⟩:=I.cell x c e;obtain⟨m,⟨o',es,ep,ho',hd',_⟩,_⟩:=I.loc;rw[z,ho'] at ho;cases ho;rw[hd'] at hd;cases hd
theorem Inv.funs (I:Inv X pins σ H s):s.heap.FunFrames X.base X.outer:=by
 have all:∀(l:List Env),(∀b∈frs l,b∈X.fs)->X.s₀.heap.FunFrames X.base l->s.heap.FunFrames X.base l:=by
  intro l
  induction l with
  | nil=>intro _ _;trivial
  | cons env r ih =>
   intro hs hl;obtain⟨hk,⟨L,o,hf,hn,ho,hd⟩,hr⟩:=hl;have hL:L∈X.fs:=hs L (by unfold frs;rw[ydn,hf];exact ybd);obtain⟨sl,e⟩:=I.base.slot L o ho (I.ok.frf L hL) hL λz=>I.ok.exfs L z hL;exact⟨hk,⟨L,_,hf,hn,e,hd⟩,ih (λb hb=>hs b (by unfold frs;rw[ydn,hf];exact ybg _ hb)) hr⟩
 exact all X.outer (λ_ hb=>hb) I.ok.funs
theorem Inv.stack (I:Inv X pins σ H s):s.heap.FunFrames X.base X.stack:=by
 rcases I.ok.stk with e | ⟨e,hf⟩
 .rw[e];exact I.funs
 .rw[e]
  obtain⟨m,hn,_⟩:=I.loc;refine .cons (by rw[I.ok.kind];decide) hf hn ?_ I.funs;exact Heap.get?_none_of_le (ybn I.ok.bsz I.ok.above)
theorem Inv.stkSub (I:Inv X pins σ H s):∀b∈frs X.stack,b∈X.env.locals::X.fs:=λb hb=>by
 rcases I.ok.stk with e | ⟨e,hf⟩
 .rw[e] at hb;exact ybg _ hb
 .rw[e] at hb
  unfold frs at hb;rw[ydn,hf] at hb;exact hb
theorem Inv.stkFree (I:Inv X pins σ H s):∀b∈frs X.stack,H b=none:=λb hb=>by
 rcases ybf.mp (I.stkSub b hb) with e | hb
 .rw[e];exact I.free
 .obtain⟨_,o,ho,_⟩:=I.ok.funs.mem hb
  exact I.base.free b o ho (I.ok.frf b hb) λz=>I.ok.exfs b z hb
theorem Inv.step {g':Array GenState}{t':Nat}{d':Drawn}{ch:List Addr}(I:Inv X pins σ H s)
 (hch:∀b∈ch,(b∈X.ex\/X.s₀.heap.objs.size<=b)/\b≠X.env.locals/\(∀x c,X.env.cells.lookup x=some c->c≠b)/\∀p∈X.pn++pins,p.1≠b)
 (keep:∀b o,b≠X.env.locals->b∉X.fs->b∉ch->s.heap.get? b=some o->H b=none->h'.get? b=some o)
 (slot:∀b o,b≠X.env.locals->b∈X.fs->b∉ch->s.heap.get? b=some o->H b=none->∃sl,h'.get? b=some { o with slots:=sl })(free:∀b o,b∉ch->s.heap.get? b=some o->H b=none->H' b=none)
 (there:∀b o,b∉ch->s.heap.get? b=some o->∃o',h'.get? b=some o')
 (tups:∀b xs,H b=some (.tup xs)->H' b=some (.tup xs))(frzs:∀b o u,H b=some (.frz o u)->H' b=some (.frz o u))(tbls:∀b ps,H b=some (.tbl ps)->∃qjB,H' b=some (.tbl (ps++qjB)))
 (ns:∀m,s.heap.Ns X.env.locals m->h'.Ns X.env.locals m)(hok:HOk X.prog X.w H' h')(hg:AllBare g') :
 Inv X pins σ H' { s with heap:=h',gens:=g',drawn:=d',toks:=t' }:=by
 have neL:∀b o,X.s₀.heap.get? b=some o->b≠X.env.locals:=λb o e=>ydx (yae (ydv e) I.ok.above)
 have neC:∀b o,X.s₀.heap.get? b=some o->b∉X.ex->b∉ch:=λb o e hx hb=>by
  rcases(hch b hb).1 with z | z
  .exact hx z
  .exact absurd (yae (ydv e) z) (yen _)
 have cellK:∀x c,X.env.cells.lookup x=some c->∀v,s.heap.IsCell c v->h'.IsCell c v:=λx c e v ⟨o,ho,hd⟩=>by
  have nch:c∉ch:=λz=>(hch c z).2.2.1 x c e rfl;by_cases hc:c∈X.fs
  .obtain⟨sl,q⟩:=slot c o (I.cne x c e) hc nch ho (I.freeC x c e)
   exact⟨_,q,hd⟩
  .exact⟨o,keep c o (I.cne x c e) hc nch ho (I.freeC x c e),hd⟩
 refine⟨I.ok,I.os,hg,⟨λb o e n hb hx=>?_,λb o e n hb hx=>?_,λb o e n hx=>?_,λb o e hx=>?_,λb xs e=>tups b xs (I.base.tups b xs e),λb o xs e=>frzs b o xs (I.base.frzs b o xs e),λb ps e=>?_⟩,?_,λx c e=>?_,?_,λx c e=>?_,λp hp=>?_,hok,I.len⟩
 .exact keep b o (neL b o e) hb (neC b o e hx) (I.base.keep b o e n hb hx) (I.base.free b o e n hx)
 .obtain⟨sl,e1⟩:=I.base.slot b o e n hb hx
  obtain⟨sl',e2⟩:=slot b _ (neL b o e) hb (neC b o e hx) e1 (I.base.free b o e n hx);exact⟨sl',e2⟩
 .obtain⟨o',e1⟩:=I.base.there b o e hx
  exact free b o' (neC b o e hx) e1 (I.base.free b o e n hx)
 .obtain⟨o',e1⟩:=I.base.there b o e hx
  exact there b o' (neC b o e hx) e1
 .obtain⟨m1,e1⟩:=I.base.tbls b ps e
  obtain⟨m2,e2⟩:=tbls b _ e1;exact⟨m1++m2,by rw[e2,yeo]⟩
 .obtain⟨m,hn,hl⟩:=I.loc
  refine⟨m,ns m hn,λi x v e1 e2 e3=>?_⟩;obtain⟨u,r,l⟩:=hl i x v e1 e2 e3;refine⟨u,r,?_⟩;rcases l with l | ⟨k,c,e,z⟩
  .exact .inl l
  .exact .inr ⟨k,c,e,cellK x c e _ z⟩
 .obtain⟨v,z⟩:=I.cell x c e
  exact⟨v,cellK x c e v z⟩
 .obtain⟨m,⟨o,_,_,ho,_⟩,_⟩:=I.loc
  exact free _ o (λz=>(hch _ z).2.1 rfl) ho I.free
 .obtain⟨v,o,ho,hd⟩:=I.cell x c e
  exact free c o (λz=>(hch c z).2.2.1 x c e rfl) ho (I.freeC x c e)
 .obtain⟨e,n,ne,nf,d⟩:=I.pin p hp
  have nch:p.1∉ch:=λz=>(hch p.1 z).2.2.2 p hp rfl;exact⟨keep p.1 p.2 ne nf nch e n,free p.1 p.2 nch e n,ne,nf,d⟩
theorem Inv.un {t':Nat}(I:Inv X pins σ H s)(u:Un X.fs [] H H' s.heap h')(hok:HOk X.prog X.w H' h'):Inv X pins σ H' { s with heap:=h',toks:=t' }:=by
 obtain⟨m,⟨o,es,ep,ho,r⟩,_⟩:=id I.loc;obtain⟨sl,hL⟩:=u.any ho I.free (by simp)
 exact I.step (g':=s.gens) (d':=s.drawn) (ch:=[]) (λ_ z=>nomatch z) (λb o _ hb _ e n=>u.keep b o e n hb (by simp)) (λb o _ hb _ e n=>u.slot b o e n hb (by simp)) (λb o _ e n=>u.free b o e n (by simp)) (λb o _ e=>u.there b o e (by simp)) u.tups u.frzs u.tbls (λm' hm=>by
  obtain⟨o',es',ep',ho',r'⟩:=hm;rw[ho] at ho';cases ho';exact⟨_,es',ep',hL,r'⟩) hok I.bare
theorem Inv.call {g':Array GenState}{t':Nat}{d':Drawn}{ch:List Addr}(I:Inv X pins σ H s)(u:Un (frs X.stack) ch H H' s.heap h')(hok:HOk X.prog X.w H' h')(hg:AllBare g')
 (hch:∀b∈ch,(b∈X.ex\/X.s₀.heap.objs.size<=b)/\b≠X.env.locals/\(∀x c,X.env.cells.lookup x=some c->c≠b)/\∀p∈X.pn++pins,p.1≠b) :
 Inv X pins σ H' { s with heap:=h',gens:=g',drawn:=d',toks:=t' }:=by
 obtain⟨m,⟨o,es,ep,ho,r⟩,_⟩:=id I.loc;obtain⟨sl,hL⟩:=u.any ho I.free λz=>(hch _ z).2.1 rfl
 exact I.step (ch:=ch) hch (λb o hL hb hc e n=>u.keep b o e n (λz=>(ybf.mp (I.stkSub b z)).elim hL hb) hc) (λb o _ _ hc e n=>u.any e n hc) (λb o hc e n=>u.free b o e n hc) (λb o hc e=>u.there b o e hc) u.tups u.frzs u.tbls (λm' hm=>by
  obtain⟨o',es',ep',ho',r'⟩:=hm;rw[ho] at ho';cases ho';exact⟨_,es',ep',hL,r'⟩) hok hg
theorem Inv.turned {t':Nat}{it:Addr}(I:Inv X pins σ H s) (k:∀b o,b≠it->s.heap.get? b=some o->h'.get? b=some o) (hn:H it=none) (hL:it≠X.env.locals)
 (h1:it∈X.ex\/X.s₀.heap.objs.size<=it) (h2:∀x c,X.env.cells.lookup x=some c->c≠it) (h3:∀p∈X.pn++pins,p.1≠it):Inv X pins σ H { s with heap:=h',toks:=t' }:=by
 have nit:∀b u,H b=some u->b≠it:=λb u e z=>by rw[z,hn] at e;cases e
 refine I.step (g':=s.gens) (d':=s.drawn) (ch:=[it]) (λb hb=>?_) (λb o _ _ hc e _=>k b o (λz=>hc (by simp[z])) e) (λb o _ _ hc e _=>⟨o.slots,k b o (λz=>hc (by simp[z])) e⟩) (λ_ _ _ _ n=>n)
  (λb o hc e=>⟨o,k b o (λz=>hc (by simp[z])) e⟩) (λ_ _ e=>e) (λ_ _ _ e=>e) (λb ps e=>⟨#[],by rw[e];simp⟩) (λm hm=>?_) (λb u e=>?_) I.bare
 .have e:b=it:=by simpa using hb
  subst e;exact⟨h1,hL,h2,h3⟩
 .obtain⟨o,es,ep,ho,r⟩:=hm
  exact⟨o,es,ep,k _ o (Ne.symm hL) ho,r⟩
 .refine(I.hok b u e).stay (λc v hc q=>k c v ?_ q) (λ_ q=>q) λ_ _ q=>q
  rcases hc with z | z
  .rw[z];exact nit b u e
  .exact nit c _ z
theorem Inv.tok (I:Inv X pins σ H s)(t:Nat):Inv X pins σ H { s with toks:=t }:=I.un (h':=s.heap) (t':=t) Un.refl I.hok
theorem Inv.kept {t':Nat}(I:Inv X pins σ H s)(k:∀b u,s.heap.get? b=some u->h'.get? b=some u):Inv X pins σ H { s with heap:=h',toks:=t' }:=I.un (Un.kept k) (I.hok.kept k)
theorem Inv.laid {a:Addr}{o:HO}{t':Nat}(I:Inv X pins σ H s)(k:∀b u,s.heap.get? b=some u->h'.get? b=some u)(hp:s.heap.objs.size<=a)(new:qbu X.prog X.w (upd H a o) h' a o) :
 Inv X pins σ (upd H a o) { s with heap:=h',toks:=t' }:=I.un (Un.laid k hp (I.hok.fresh hp)) (I.hok.laid k hp new)
theorem Inv.write {x e:Addr}{o:HO}{t':Nat}(I:Inv X pins σ H s)(mu:Mut (H x))(he:e=x\/H e=some (.own x))(k:∀b u,b≠e->s.heap.get? b=some u->h'.get? b=some u)(heo:∃u,h'.get? e=some u)
 (new:qbu X.prog X.w (upd H x o) h' x o):Inv X pins σ (upd H x o) { s with heap:=h',toks:=t' }:=I.un (Un.write mu he k heo) (I.hok.write mu he k heo new)
theorem Inv.weak {σ':List (Option V)}(I:Inv X pins σ H s)(hl:σ'.length=σ.length)(w:∀(i:Nat) v,σ'[i]?=some (some v)->σ[i]?=some (some v)):Inv X pins σ' H s :=
 ⟨I.ok,I.os,I.bare,I.base,let ⟨m,hn,hl'⟩:=I.loc;⟨m,hn,λi x v e1 e2 e3=>hl' i x v e1 (w i v e2) e3⟩,I.cell,I.free,I.freeC,I.pin,I.hok,hl.trans I.len⟩
theorem Inv.pins_of {pins':List (Addr×Obj)}(I:Inv X pins σ H s)(h:∀p∈pins',s.heap.get? p.1=some p.2/\H p.1=none/\p.1≠X.env.locals/\p.1∉X.fs/\∀v,p.2.data ≠ .cell v):Inv X pins' σ H s :=
 ⟨I.ok,I.os,I.bare,I.base,I.loc,I.cell,I.free,I.freeC,λp hp=>(yav.mp hp).elim (λz=>I.pin p (yau _ z)) (h p),I.hok,I.len⟩
theorem qjw {N:List Str}(hN:N.Nodup){i j:Nat}{x:Str}(a:N[i]?=some x)(b:N[j]?=some x):i=j:=by
 obtain⟨h1,e1⟩:=ycm.mp a;obtain⟨h2,e2⟩:=ycm.mp b;exact(yep hN).mp (e1.trans e2.symm)
theorem qmR {M:Model}{A:Around}{E:Value->Shared->Prop}{i:Nat}{x:Str}{v:V}{u:Value}{Q:Unit->Shared->Prop}(I:Inv X pins σ H s)(hN:X.N.Nodup)(hi:X.N[i]?=some x)(hx:Loc X.env.scope x)(r:qbc v u)
 (h:∀s',Inv X pins (σ.set i (some v)) H s'->(∃a,Heap.SameBut a s.heap s'.heap/\(a=X.env.locals\/X.env.cells.lookup x=some a))->Q () s')(hf:X.fn x=true\/X.env.scope.names.lookup x=some .local:=by first | exact .inl rfl | exact .inr rfl | assumption):wpAny M A (storeName X.env x u) Q E s:=by
 obtain⟨m,hn,hl⟩:=id I.loc;have hcls:(X.env.scope.kind == .class||(X.env.scope.kind == .module&&X.env.locals != X.env.globals))=false:=by rw[I.ok.kind];rfl
 have hiσ:i<σ.length:=by rw[I.len];exact(ycm.mp hi).1
 have cne:=I.cne
 have tracked:∀{a:Addr}{h':Heap},(∃o,s.heap.get? a=some o/\H a=none)->Heap.SameBut a s.heap h'->HOk X.prog X.w H h':=λ{a h'} ha hs b ob e=>by
  obtain⟨_,_,hfree⟩:=ha;refine(I.hok b ob e).stay (λc w' hc q=>(hs.2 c ?_).trans q) (λ_ q=>q) λ_ _ q=>q;rintro rfl;rcases hc with rfl | hc
  .rw[hfree] at e;cases e
  .rw[hfree] at hc;cases hc
 rcases hx with hk | hk
 .refine wpAny_storeName_local hk hn (λh' hn' hs=>?_) hcls
  obtain⟨oL,_,_,hoL,_⟩:=id hn;refine h _ ⟨I.ok,I.os,I.bare,⟨λb o e n hb hx=>?_,λb o e n hb hx=>?_,I.base.free,λb o e hx=>?_,I.base.tups,I.base.frzs,I.base.tbls⟩,⟨_,hn',λj y v' e1 e2 e3=>?_⟩,λy c e=>?_,I.free,I.freeC,λp hp=>?_,tracked ⟨oL,hoL,I.free⟩ hs,by simpa using I.len⟩ ⟨_,hs,.inl rfl⟩
  .exact(hs.2 b (ydx (yae (ydv e) I.ok.above))).trans (I.base.keep b o e n hb hx)
  .obtain⟨sl,e1⟩:=I.base.slot b o e n hb hx
   exact⟨sl,(hs.2 b (ydx (yae (ydv e) I.ok.above))).trans e1⟩
  .obtain⟨o',e1⟩:=I.base.there b o e hx
   exact⟨o',(hs.2 b (ydx (yae (ydv e) I.ok.above))).trans e1⟩
  .by_cases hj:j=i
   .subst hj
    rw[hi] at e1;cases e1;rw[yeq hiσ] at e2;cases e2;exact⟨u,r,.inl ⟨hk,by simp⟩⟩
   .rw[yer (Ne.symm hj)] at e2
    obtain⟨u',r',q⟩:=hl j y v' e1 e2 e3;refine⟨u',r',?_⟩;rcases q with⟨k,e⟩ | ⟨k,c,e,z⟩
    .refine .inl ⟨k,?_⟩
     have:y≠x:=λe=>hj (qjw hN e1 (e▸hi));simp[this,e]
    .exact .inr ⟨k,c,e,z.sameBut hs (cne y c e)⟩
  .obtain⟨w',z⟩:=I.cell y c e
   exact⟨w',z.sameBut hs (cne y c e)⟩
  .obtain⟨e,n,ne,nf,d⟩:=I.pin p hp
   exact⟨(hs.2 p.1 ne).trans e,n,ne,nf,d⟩
 .have hfn:X.fn x=true:=by
   rcases hf with z | z
   .exact z
   .rw[z] at hk;cases hk
  obtain⟨c,hc⟩:=I.ok.has x (.inl hk);obtain⟨w',z⟩:=I.cell x c hc;refine wpAny_storeName_cell I.ok.kind hk hc z (λh' hc' hs=>?_);obtain⟨oc,hoc,hocd⟩:=id z;refine h { s with heap:=h' } ⟨I.ok,I.os,I.bare,⟨λb o e n hb hx=>?_,λb o e n hb hx=>?_,I.base.free,λb o e hx=>?_,I.base.tups,I.base.frzs,I.base.tbls⟩,⟨m,hn.sameBut hs (Ne.symm (cne x c hc)),λj y v' e1 e2 e3=>?_⟩,λy c' e=>?_,I.free,I.freeC,λp hp=>?_,tracked ⟨oc,hoc,I.freeC x c hc⟩ hs,by simpa using I.len⟩ ⟨c,hs,.inr hc⟩
  .exact(hs.2 b (ydx (yae (ydv e) (I.ok.cab x c hfn hc)))).trans (I.base.keep b o e n hb hx)
  .obtain⟨sl,e1⟩:=I.base.slot b o e n hb hx
   exact⟨sl,(hs.2 b (ydx (yae (ydv e) (I.ok.cab x c hfn hc)))).trans e1⟩
  .obtain⟨o',e1⟩:=I.base.there b o e hx
   exact⟨o',(hs.2 b (ydx (yae (ydv e) (I.ok.cab x c hfn hc)))).trans e1⟩
  .by_cases hj:j=i
   .subst hj
    rw[hi] at e1;cases e1;rw[yeq hiσ] at e2;cases e2;exact⟨u,r,.inr ⟨.inl hk,c,hc,hc'⟩⟩
   .rw[yer (Ne.symm hj)] at e2
    obtain⟨u',r',q⟩:=hl j y v' e1 e2 e3;refine⟨u',r',?_⟩;rcases q with q | ⟨k,c',e,z'⟩
    .exact .inl q
    .refine .inr ⟨k,c',e,z'.sameBut hs ?_⟩
     rintro rfl;exact hj (qjw hN e1 (I.ok.inj _ _ _ e hc▸hi))
  .by_cases hcc:c'=c
   .subst hcc;exact⟨_,hc'⟩
   .obtain⟨w2,z2⟩:=I.cell y c' e
    exact⟨w2,z2.sameBut hs hcc⟩
  .obtain⟨e,n,ne,nf,d⟩:=I.pin p hp
   refine⟨(hs.2 p.1 ?_).trans e,n,ne,nf,d⟩;intro q;rw[q,hoc] at e;have q':oc=p.2:=Option.some.inj e;exact d w' (by rw[<-q'];exact hocd)
theorem qgx {M:Model}{A:Around}{E:Value->Shared->Prop}{i:Nat}{x:Str}{v:V}{u:Value}{Q:Unit->Shared->Prop}(I:Inv X pins σ H s)(hN:X.N.Nodup)(hi:X.N[i]?=some x)(hx:Loc X.env.scope x)(r:qbc v u)
 (h:∀s',Inv X pins (σ.set i (some v)) H s'->Q () s')(hf:X.fn x=true\/X.env.scope.names.lookup x=some .local:=by first | exact .inl rfl | exact .inr rfl | assumption):wpAny M A (storeName X.env x u) Q E s :=
 qmR I hN hi hx r (λs' I' _=>h s' I') hf
theorem Inv.call' {s':Shared}{ch:List Addr}(I:Inv X pins σ H s)(ho:s'.os=s.os)(u:Un (frs X.stack) ch H H' s.heap s'.heap)(hok:HOk X.prog X.w H' s'.heap)(hg:AllBare s'.gens)
 (hch:∀b∈ch,(b∈X.ex\/X.s₀.heap.objs.size<=b)/\b≠X.env.locals/\(∀x c,X.env.cells.lookup x=some c->c≠b)/\∀p∈X.pn++pins,p.1≠b):Inv X pins σ H' s':=by
 obtain⟨h',g',d',t',o'⟩:=s';have e:o'=s.os:=ho;subst e;exact I.call (g':=g') (t':=t') (d':=d') u hok hg hch
end
abbrev XK:=Value->Option Addr->Hp->Prop
abbrev St:=List (Option V)
abbrev VK:=V->Hp->Prop
abbrev TE:=St->Hp->VK->Prop
abbrev TT:=St->Hp->(Bool->Hp->Prop)->Prop
abbrev TA:=St->Hp->(List V->Hp->Prop)->Prop
structure qfX where
 nx:St->Hp->Prop
 rt:VK
 bk:St->Hp->Prop:=λ_ _=>False
 ct:St->Hp->Prop:=λ_ _=>False
abbrev TS:=qfX->St->Hp->Prop
def EP (X:Cx)(pins:List (Addr×Obj))(σ:St)(Q:VK)(u:Value)(s':Shared):Prop:=∃v H',Inv X pins σ H' s'/\qbc v u/\Q v H'
def TP (X:Cx)(pins:List (Addr×Obj))(σ:St)(Q:Bool->Hp->Prop)(b:Bool)(s':Shared):Prop:=∃H',Inv X pins σ H' s'/\Q b H'
def AP (X:Cx)(pins:List (Addr×Obj))(σ:St)(Q:List V->Hp->Prop)(us:List Value)(s':Shared):Prop:=∃vs H',Inv X pins σ H' s'/\qaN vs us/\Q vs H'
def SP (X:Cx)(pins:List (Addr×Obj))(D:qfX)(f:Flow)(s':Shared):Prop :=
 match f with
 | .next=>∃σ' H',Inv X pins σ' H' s'/\D.nx σ' H'
 | .brk=>∃σ' H',Inv X pins σ' H' s'/\D.bk σ' H'
 | .cont=>∃σ' H',Inv X pins σ' H' s'/\D.ct σ' H'
 | .ret u=>∃v σ' H',Inv X pins σ' H' s'/\qbc v u/\D.rt v H'
def PE (X:Cx)(e:Expr)(t:TE):Prop :=
 ∀(pins:List (Addr×Obj)) (s:Shared) (σ:St) (H:Hp) (Q:VK),Inv X pins σ H s->t σ H Q->wpAny (model X.prog X.w) X.A (eval e X.env) (EP X pins σ Q) X.xe s
def PT (X:Cx)(e:Expr)(t:TT):Prop :=
 ∀(pins:List (Addr×Obj)) (s:Shared) (σ:St) (H:Hp) (Q:Bool->Hp->Prop),Inv X pins σ H s->t σ H Q->wpAny (model X.prog X.w) X.A (isTrue e X.env (eval e X.env)) (TP X pins σ Q) X.xe s
def PW (X:Cx)(e:Expr)(t:TT):Prop :=
 ∀(whole:Sem Value) (pins:List (Addr×Obj)) (s:Shared) (σ:St) (H:Hp) (Q:Bool->Hp->Prop),Inv X pins σ H s->t σ H Q->wpAny (model X.prog X.w) X.A (isTrue e X.env whole) (TP X pins σ Q) X.xe s
theorem PW.pt {X:Cx}{e:Expr}{t:TT}(h:PW X e t):PT X e t:=h _
def PA (X:Cx)(es:List Expr)(t:TA):Prop :=
 ∀(pos:Pos) (pins:List (Addr×Obj)) (s:Shared) (σ:St) (H:Hp) (Q:List V->Hp->Prop),Inv X pins σ H s->t σ H Q->wpAny (model X.prog X.w) X.A (spliced (backTo pos (starEach es X.env))) (AP X pins σ Q) X.xe s
def PS (X:Cx)(st:Stmt)(t:TS):Prop :=
 ∀(pins:List (Addr×Obj)) (s:Shared) (σ:St) (H:Hp) (D:qfX),Inv X pins σ H s->t D σ H->wpAny (model X.prog X.w) X.A (exec st X.env) (SP X pins D) X.xe s
def PSs (X:Cx)(st:List Stmt)(t:TS):Prop :=
 ∀(pins:List (Addr×Obj)) (s:Shared) (σ:St) (H:Hp) (D:qfX),Inv X pins σ H s->t D σ H->wpAny (model X.prog X.w) X.A (execs st X.env) (SP X pins D) X.xe s
theorem thn {α:Type}{t:Sem α}{Q Q':α->Shared->Prop}{M:Model}{A:Around}{E:Value->Shared->Prop}{s:Shared}(h:wpAny M A t Q E s)(hQ:∀a s,Q a s->Q' a s):wpAny M A t Q' E s:=wpAny_mono h hQ λ_ _ x=>x
end L2
namespace L2
open PySem PySem.Spec PyProof.Rows
section
variable {X:Cx}
theorem bin {a b:Expr}{ta tb:TE}(ha:PE X a ta)(hb:PE X b tb){pins:List (Addr×Obj)}{s:Shared}{σ:St}{H:Hp}{R:V->V->Hp->Prop}(I:Inv X pins σ H s)(h:ta σ H λx H1=>tb σ H1 λy H2=>R x y H2)
 {α:Type}{Q:α->Shared->Prop}{f:Value->Value->Sem α}
 (hf:∀v u s2 x y H2,Inv X pins σ H2 s2->qbc x v->qbc y u->R x y H2->wpAny (model X.prog X.w) X.A (f v u) Q X.xe s2) :
 wpAny (model X.prog X.w) X.A (eval a X.env) (λv s₁=>wpAny (model X.prog X.w) X.A (eval b X.env) (λu s₂=>wpAny (model X.prog X.w) X.A (f v u) Q X.xe s₂) X.xe s₁) X.xe s:=by
 refine thn (ha pins s σ H _ I h) λv s1 ⟨x,H1,I1,r1,q1⟩=>?_;refine thn (hb pins s1 σ H1 _ I1 q1) λu s2 ⟨y,H2,I2,r2,q2⟩=>?_;exact hf v u s2 x y H2 I2 r1 r2 q2
def qug (i:Nat):TE:=λσ H Q=>∃v,σ[i]?=some (some v)/\Q v H
def tC (v:V):TE:=λ_ H Q=>Q v H
theorem qte {i:Nat}{x:Str}{pos:Pos}(hN:X.N[i]?=some x)(hv:Vis X.env.scope x)(hd:(x==("__debug__" : Str))=false:=by decide)(hcd:(x==("__classdict__" : Str))=false:=by decide):PE X (.Name x pos) (qug i):=by
 intro pins s σ H Q I h;obtain⟨v,e,h⟩:=h;obtain⟨m,hn,hl⟩:=I.loc;obtain⟨u,r,l⟩:=hl i x v hN e hv;have fin:EP X pins σ Q u s:=⟨v,H,I,r,h⟩;rcases l with⟨hk,hm⟩ | ⟨hk,c,hc,hcell⟩
 .exact wpAny_Name (wpAny_loadName_local I.ok.kind hk hn hm fin) hd
 .rcases hk with hk | hk
  .exact wpAny_Name (wpAny_loadName_cell I.ok.kind hk hc hcell fin) hd
  .exact wpAny_Name (wpAny_loadName_free I.ok.kind hk hc hcell fin hcd) hd
theorem qae {i j pos}:PE X (.Constant (.int i) j pos) (tC (.int i)):=λ_ _ _ H _ I h=>wpAny_Constant_int ⟨.int i,H,I.tok _,⟨_,rfl⟩,h⟩
theorem qbg {b j pos}:PE X (.Constant (.bool b) j pos) (tC (.bl b)):=λ_ _ _ H _ I h=>Constant_bool ⟨.bl b,H,I,rfl,h⟩
theorem qdU {j pos}:PE X (.Constant .none j pos) (tC .non):=λ_ _ _ H _ I h=>Constant_none ⟨.non,H,I,rfl,h⟩
theorem qaq {x j pos}:PE X (.Constant (.str x) j pos) (tC (.str x)):=λ_ _ _ H _ I h=>Calls.Constant_str ⟨.str x,H,I.tok _,⟨_,rfl⟩,h⟩
def Gl (X:Cx)(x:Str):Prop:=X.env.kindOf x=some .globalImplicit
theorem qiV {E:Value->Shared->Prop}{pins:List (Addr×Obj)}{s:Shared}{σ:St}{H:Hp}{x:Str}{u:Value}{pos:Pos}{Q:Value->Shared->Prop}(I:Inv X pins σ H s)(hg:Gl X x)(hm:X.mg x=some u)(h:Q u s)
 (hd:(x==("__debug__" : Str))=false:=by decide):wpAny (model X.prog X.w) X.A (eval (.Name x pos) X.env) Q E s :=
 Calls.Name_function_global I.ok.kind hg (Calls.loadGlobal_global (by rw[I.ok.glob];exact I.mod.glob.keeps I.bk) hm h) hd
theorem qdc {E:Value->Shared->Prop}{pins:List (Addr×Obj)}{s:Shared}{σ:St}{H:Hp}{x:Str}{u:Value}{pos:Pos}{Q:Value->Shared->Prop}(I:Inv X pins σ H s)(hg:Gl X x)(hm:X.mg x=none)(hv:bootBuiltins x=some u)(h:Q u s)
 (hn:x ≠ "__name__" := by decide)(hd:(x==("__debug__" : Str))=false:=by decide):wpAny (model X.prog X.w) X.A (eval (.Name x pos) X.env) Q E s:=by
 obtain⟨mb,h1,h2⟩:=I.mod.blt;exact Calls.Name_function_global I.ok.kind hg (Calls.loadGlobal_builtin (by rw[I.ok.glob];exact I.mod.glob.keeps I.bk) hm (by rw[I.ok.blt];exact h1.keeps I.bk) ((h2 x hn).trans hv) h) hd
theorem qey {x:Str}{v:V}{u:Value}{pos:Pos}(hg:Gl X x)(hm:X.mg x=some u)(r:qbc v u)(hd:(x==("__debug__" : Str))=false:=by decide):PE X (.Name x pos) (tC v) :=
 λ_ _ _ H _ I h=>qiV I hg hm ⟨v,H,I,r,h⟩ hd
theorem qfJ {x:Str}{v:V}{u:Value}{pos:Pos}(hg:Gl X x)(hm:X.mg x=none)(hv:bootBuiltins x=some u)(r:qbc v u)(hn:x ≠ "__name__" := by decide)(hd:(x==("__debug__" : Str))=false:=by decide):PE X (.Name x pos) (tC v) :=
 λ_ _ _ H _ I h=>qdc I hg hm hv ⟨v,H,I,r,h⟩ hn hd
variable {a b:Expr}{ta tb:TE}{pos:Pos}
def PC (X:Cx)(op:CmpOp)(a b:Expr)(t:TE):Prop :=
 ∀(pins:List (Addr×Obj)) (s:Shared) (σ:St) (H:Hp) (Q:VK),Inv X pins σ H s->t σ H Q ->
  wpAny (model X.prog X.w) X.A (eval a X.env) (λv s₁=>wpAny (model X.prog X.w) X.A (eval b X.env) (λu s₂=>wpAny (model X.prog X.w) X.A (compareOp op v u) (EP X pins σ Q) X.xe s₂) X.xe s₁) X.xe s
theorem qnl (b:Expr){op:CmpOp}(h:op ≠ .In)(h2:op ≠ .NotIn):behindInMarks op b=false:=by
 have e1:(op==CmpOp.In)=false:=by cases op<;>first | rfl | exact absurd rfl h
 have e2:(op==CmpOp.NotIn)=false:=by cases op<;>first | rfl | exact absurd rfl h2
 cases b<;>simp[behindInMarks,e1,e2]
def tB (t:TE):TT:=λσ H Q=>t σ H λx H1=>∃c,x = .bl c/\Q c H1
theorem qkQ {op:CmpOp}{t:TE}(h:PC X op a b t)(h1:behindInMarks op b=false:=by first | exact qnl _ (by decide) (by decide) | rfl):PT X (.Compare a [op] [b] pos) (tB t):=by
 intro pins s σ H Q I hw;refine wpAny_isTrue_Compare1 (thn (h pins s σ H _ I hw) λv s1 h1=>thn h1 λu s2 h2=>thn h2 λc s3 ⟨x,H1,I1,r1,q1⟩=>?_) h1;obtain⟨d,rfl,q⟩:=q1;cases r1;exact wpAny_truthy_bool ⟨H1,I1,q⟩
theorem qa9 {e:Expr}{t:TE}(h:PE X e t)(he:∀whole,isTrue e X.env whole=(do let v <-whole;standAt e.pos;holding [v] (truthy v)):=by intro _;rfl):PT X e (tB t):=by
 intro pins s σ H Q I hw;refine isTrue_plain (thn (h pins s σ H _ I hw) λv s1 ⟨x,H1,I1,r1,q1⟩=>?_) (he _);obtain⟨d,rfl,q⟩:=q1;cases r1;exact wpAny_truthy_bool ⟨H1,I1,q⟩
variable {tA tB':TT}{qiW:List Expr}
def qum (t u:TT):TT:=λσ H Q=>t σ H λc H1=>if c=true then u σ H1 Q else Q false H1
def tOr (t u:TT):TT:=λσ H Q=>t σ H λc H1=>if c=true then Q true H1 else u σ H1 Q
def qur (t:TT):TT:=λσ H Q=>t σ H λc H1=>Q (!c) H1
theorem qbO (ha:PT X a tA):PW X (.BoolOp .And [a] pos) tA:=by
 intro wh pins s σ H Q I h;refine isTrue_and (thn (ha pins s σ H Q I h) λc s1 e=>?_);cases c with
 | true=>exact isTrue_and_nil e
 | false=>exact e
theorem qdd (ha:PT X a tA):PW X (.BoolOp .Or [a] pos) tA:=by
 intro wh pins s σ H Q I h;refine isTrue_or (thn (ha pins s σ H Q I h) λc s1 e=>?_);cases c with
 | false=>exact isTrue_or_nil e
 | true=>exact e
theorem qcB (ha:PT X a tA)(hb:PW X (.BoolOp .And (b::qiW) pos) tB'):PW X (.BoolOp .And (a::b::qiW) pos) (qum tA tB'):=by
 intro wh pins s σ H Q I h;refine isTrue_and (thn (ha pins s σ H _ I h) λc s1 ⟨H1,I1,q1⟩=>?_);cases c with
 | true=>exact hb wh pins s1 σ H1 Q I1 q1
 | false=>exact⟨H1,I1,q1⟩
theorem qf7 (ha:PT X a tA)(hb:PW X (.BoolOp .Or (b::qiW) pos) tB'):PW X (.BoolOp .Or (a::b::qiW) pos) (tOr tA tB'):=by
 intro wh pins s σ H Q I h;refine isTrue_or (thn (ha pins s σ H _ I h) λc s1 ⟨H1,I1,q1⟩=>?_);cases c with
 | true=>exact⟨H1,I1,q1⟩
 | false=>exact hb wh pins s1 σ H1 Q I1 q1
theorem qbD (ha:PT X a tA):PT X (.UnaryOp .Not a pos) (qur tA):=by
 intro pins s σ H Q I h;exact isTrue_not (ha pins s σ H (λc H1=>Q (!c) H1) I h)
def qsQ (ta tb:TE):TE:=λσ H Q=>ta σ H λx H1=>∃c,x = .bl c/\if c=true then tb σ H1 Q else Q (.bl false) H1
def quW (ta tb:TE):TE:=λσ H Q=>ta σ H λx H1=>∃c,x = .bl c/\if c=true then Q (.bl true) H1 else tb σ H1 Q
def qrV (ta:TE):TE:=λσ H Q=>ta σ H λx H1=>∃c,x = .bl c/\Q (.bl (!c)) H1
theorem qju {op}{t:TE}(h:PE X a t):PE X (.BoolOp op [a] pos) t:=λpins s σ H Q I hw=>BoolOp_one (h pins s σ H Q I hw)
theorem qih (ha:PE X a ta)(hb:PE X (.BoolOp .And (b::qiW) pos) tb):PE X (.BoolOp .And (a::b::qiW) pos) (qsQ ta tb):=by
 intro pins s σ H Q I h;refine BoolOp_and (thn (ha pins s σ H _ I h) λv s1 ⟨x,H1,I1,r1,q1⟩=>?_);obtain⟨c,rfl,q1⟩:=q1;cases r1;refine wpAny_truthy_bool ?_;cases c with
 | true=>exact hb pins s1 σ H1 Q I1 q1
 | false=>exact⟨.bl false,H1,I1,rfl,q1⟩
theorem qsv (ha:PE X a ta):PE X (.UnaryOp .Not a pos) (qrV ta):=by
 intro pins s σ H Q I h;refine UnaryOp_ (thn (ha pins s σ H _ I h) λv s1 ⟨x,H1,I1,r1,q1⟩=>?_);obtain⟨c,rfl,q1⟩:=q1;cases r1;exact not_of (wpAny_truthy_bool ⟨.bl (!c),H1,I1,rfl,q1⟩)
def tIf (t:TT)(ta tb:TE):TE:=λσ H Q=>t σ H λc H1=>if c=true then ta σ H1 Q else tb σ H1 Q
theorem qjW {c:Expr}(hc:PT X c tA)(ha:PE X a ta)(hb:PE X b tb):PE X (.IfExp c a b pos) (tIf tA ta tb):=by
 intro pins s σ H Q I h;refine wpAny_IfExp (thn (hc pins s σ H _ I h) λd s1 ⟨H1,I1,q1⟩=>?_);cases d with
 | true=>exact ha pins s1 σ H1 Q I1 q1
 | false=>exact hb pins s1 σ H1 Q I1 q1
end
end L2
namespace L2
open PySem PySem.Spec PyProof.Rows
def SqL (K:PySem.W.Frag)(H:Hp)(a:Addr)(xs:List V):Prop :=
 Rd H a (.lst xs) \/
  ∃(o:Obj) (its:Array Value) (n:Nat),K.lookup a=some o/\o.cls = .type "list" /\ o.dict=none/\o.data = .seq its n/\its.size<=sizeLine/\qaN xs its.toList
def SqT (K:PySem.W.Frag)(H:Hp)(a:Addr)(xs:List V):Prop :=
 Rd H a (.tup xs) \/
  ∃(o:Obj) (its:Array Value) (n:Nat),K.lookup a=some o/\o.cls = .type "tuple" /\ o.data = .seq its n/\its.size<=sizeLine/\qaN xs its.toList
def qu5:Value->Option V
 | .none=>some .non
 | .bool b=>some (.bl b)
 | .int i _=>some (.int i)
 | .str x _=>some (.str x)
 | .bytes b _=>some (.byt b)
 | .float b _=>some (.flt b)
 | .ref a=>some (.ref a)
 | .type n=>some (.ty n)
 | _=>none
theorem qbc.abs {x:V}{u:Value}(r:qbc x u):qu5 u=some x:=by
 cases x with
 | non=>cases r;rfl
 | bl _=>cases r;rfl
 | int _=>obtain⟨t,rfl⟩:=r;rfl
 | str _=>obtain⟨t,rfl⟩:=r;rfl
 | byt _=>obtain⟨t,rfl⟩:=r;rfl
 | flt _=>obtain⟨t,rfl⟩:=r;rfl
 | ref _=>cases r;rfl
 | ty _=>cases r;rfl
theorem qbc.inj {x y:V}{u:Value}(r:qbc x u)(q:qbc y u):x=y:=Option.some.inj (r.abs.symm.trans q.abs)
theorem qaN.inj:∀{xs ys:List V}{us:List Value},qaN xs us->qaN ys us->xs=ys
 | _,_,_,.nil,.nil=>rfl
 | _,_,_,.cons r t,.cons r' t'=>by rw[r.inj r',qaN.inj t t']
section
variable {X:Cx}{pins:List (Addr×Obj)}{σ:St}{H:Hp}{s:Shared}{a:Addr}{xs ys:List V}
theorem SqL.of {K:PySem.W.Frag}(h:H a=some (.lst xs)):SqL K H a xs := .inl (.inl h)
theorem SqT.of {K:PySem.W.Frag}(h:H a=some (.tup xs)):SqT K H a xs := .inl (.inl h)
theorem Inv.list (I:Inv X pins σ H s)(h:SqL X.K H a xs):∃its:List Value,qaN xs its/\PlainL s.heap a its.toArray/\xs.length<=sizeLine:=by
 rcases h with h | ⟨o,its,n,hk,hc,hd,hs,hz,r⟩
 .obtain⟨z,its,n,r,e⟩:=h.ok I.hok
  exact⟨its,r,⟨_,n,e,rfl,rfl,rfl⟩,z⟩
 .refine⟨its.toList,r,⟨o,n,I.kIn a o hk,hc,hd,by simpa using hs⟩,?_⟩
  have e:=r.length;simp only[ydh] at e;omega
theorem Inv.tuple (I:Inv X pins σ H s)(h:SqT X.K H a xs):∃its:List Value,qaN xs its/\IsTup s.heap a its.toArray/\xs.length<=sizeLine:=by
 rcases h with h | ⟨o,its,n,hk,hc,hs,hz,r⟩
 .obtain⟨z,its,r,p⟩:=h.ok I.hok
  exact⟨its,r,p,z⟩
 .refine⟨its.toList,r,⟨o,I.kIn a o hk,hc,n,by simpa using hs⟩,?_⟩
  have e:=r.length;simp only[ydh] at e;omega
theorem Inv.list_inj (I:Inv X pins σ H s)(h:SqL X.K H a xs)(h':SqL X.K H a ys):xs=ys:=by
 obtain⟨its,r,⟨o,n,e,_,_,d⟩,_⟩:=I.list h;obtain⟨its',r',⟨o',n',e',_,_,d'⟩,_⟩:=I.list h';rw[e] at e';cases e';rw[d] at d';injection d' with d1 _
 have:its=its':=by simpa using congrArg Array.toList d1
 subst this;exact r.inj r'
theorem Inv.tuple_inj (I:Inv X pins σ H s)(h:SqT X.K H a xs)(h':SqT X.K H a ys):xs=ys:=by
 obtain⟨its,r,⟨o,e,_,n,d⟩,_⟩:=I.tuple h;obtain⟨its',r',⟨o',e',_,n',d'⟩,_⟩:=I.tuple h';rw[e] at e';cases e';rw[d] at d';injection d' with d1 _
 have:its=its':=by simpa using congrArg Array.toList d1
 subst this;exact r.inj r'
end
abbrev Cx.wish (X:Cx)(E:Value->Shared->Prop):Cx:={ X with xe:=E }
abbrev Cx.nox (X:Cx):Cx:=X.wish λ_ _=>False
theorem Cx.Ok.wish {X:Cx}(ok:X.Ok)(E:Value->Shared->Prop):(X.wish E).Ok :=
 ⟨ok.mod,ok.kind,ok.glob,ok.blt,ok.above,ok.inj,ok.has,ok.cab,ok.hd,ok.frames,ok.stk,ok.exf,ok.bs,ok.bsz,ok.noex,ok.exfs,ok.funs,ok.frf⟩
theorem Cx.Ok.unwish {X:Cx}{E:Value->Shared->Prop}(ok:(X.wish E).Ok):X.Ok :=
 ⟨ok.mod,ok.kind,ok.glob,ok.blt,ok.above,ok.inj,ok.has,ok.cab,ok.hd,ok.frames,ok.stk,ok.exf,ok.bs,ok.bsz,ok.noex,ok.exfs,ok.funs,ok.frf⟩
section
variable {X:Cx}{pins:List (Addr×Obj)}{σ:St}{H:Hp}{s:Shared}{E:Value->Shared->Prop}
theorem Inv.wish (I:Inv X pins σ H s)(E:Value->Shared->Prop):Inv (X.wish E) pins σ H s:=⟨I.ok.wish E,I.os,I.bare,I.base,I.loc,I.cell,I.free,I.freeC,I.pin,I.hok,I.len⟩
theorem Inv.unwish (I:Inv (X.wish E) pins σ H s):Inv X pins σ H s:=⟨I.ok.unwish,I.os,I.bare,I.base,I.loc,I.cell,I.free,I.freeC,I.pin,I.hok,I.len⟩
theorem SP.unwish {D:qfX}{f:Flow}{s':Shared}(h:SP (X.wish E) pins D f s'):SP X pins D f s':=by
 cases f with
 | next=>obtain⟨σ',H',I,q⟩:=h;exact⟨σ',H',I.unwish,q⟩
 | brk=>obtain⟨σ',H',I,q⟩:=h;exact⟨σ',H',I.unwish,q⟩
 | cont=>obtain⟨σ',H',I,q⟩:=h;exact⟨σ',H',I.unwish,q⟩
 | ret u=>obtain⟨v,σ',H',I,r,q⟩:=h;exact⟨v,σ',H',I.unwish,r,q⟩
theorem PSs.nox {st:List Stmt}{t:TS}(h:PSs X.nox st t):PSs X st t:=λpins s σ H D I hw =>
 wpAny_mono (h pins s σ H D (I.wish _) hw) (λ_ _ q=>q.unwish) λ_ _ z=>False.elim z
end
section
variable {X:Cx}{st:Stmt}{qiW:List Stmt}{t u:TS}{e:Expr}{te:TE}{pos:Pos}
def qlF:TS:=λD σ H=>D.nx σ H
def qmV (t u:TS):TS:=λD σ H=>t { D with nx:=u D } σ H
theorem qak:PSs X [] qlF:=λ_ _ σ H _ I h=>wpAny_execs_nil ⟨σ,H,I,h⟩
theorem qab (h1:PS X st t)(h2:PSs X qiW u):PSs X (st::qiW) (qmV t u):=by
 intro pins s σ H D I h;refine wpAny_execs_cons (thn (h1 pins s σ H { D with nx:=u D } I h) λf s1 q=>?_);cases f with
 | next =>
  obtain⟨σ',H',I',q⟩:=q;exact h2 pins s1 σ' H' D I' q
 | ret v=>exact q
 | brk=>exact q
 | cont=>exact q
theorem qad (h1:PS X st t):PSs X [st] t:=by
 intro pins s σ H D I h;refine wpAny_execs_cons (thn (h1 pins s σ H D I h) λf s1 q=>?_);cases f with
 | next=>exact wpAny_execs_nil q
 | ret v=>exact q
 | brk=>exact q
 | cont=>exact q
theorem Inv.quiet {pins:List (Addr×Obj)}{σ:St}{H:Hp}{s:Shared}(I:Inv X pins σ H s):interactive X.env=false:=by simp[interactive,I.ok.kind]
def qq3 (te:TE):TS:=λD σ H=>te σ H λ_ H1=>D.nx σ H1
theorem qco (he:PE X e te)(hs:swapsWith e none pos.line X.env=pure false:=by rfl):PS X (.Expr e pos) (qq3 te):=by
 intro pins s σ H D I h;exact wpAny_Expr_any (thn (he pins s σ H _ I h) λv s1 ⟨x,H1,I1,r1,q1⟩=>⟨σ,H1,I1,q1⟩) I.quiet hs
def qt5 (te:TE):TS:=λD σ H=>te σ H D.rt
theorem qah (he:PE X e te):PS X (.Return (some e) pos) (qt5 te):=by
 intro pins s σ H D I h;exact wpAny_Return_some (thn (he pins s σ H _ I h) λv s1 ⟨x,H1,I1,r1,q1⟩=>⟨x,σ,H1,I1,r1,q1⟩)
def qt8:TS:=λD _ H=>D.rt .non H
def qr0 (c:TT)(t u:TS):TS:=λD σ H=>c σ H λb H1=>if b=true then t D σ H1 else u D σ H1
theorem qaA {c:Expr}{a b:List Stmt}{tc:TT}(hc:PT X c tc)(ha:PSs X a t)(hb:PSs X b u):PS X (.If c a b pos) (qr0 tc t u):=by
 intro pins s σ H D I h;refine wpAny_If (thn (hc pins s σ H _ I h) λd s1 ⟨H1,I1,q1⟩=>?_);cases d with
 | true=>exact ha pins s1 σ H1 D I1 q1
 | false=>exact hb pins s1 σ H1 D I1 q1
def qpn:TS:=λ_ _ _=>False
theorem qaY:PS X st qpn:=λ_ _ _ _ _ _ h=>h.elim
end
abbrev TG:=V->St->Hp->(St->Hp->Prop)->Prop
abbrev TGs:=List V->St->Hp->(St->Hp->Prop)->Prop
def PG (X:Cx)(target:Expr)(t:TG):Prop :=
 ∀(pins:List (Addr×Obj)) (s:Shared) (σ:St) (H:Hp) (v:V) (u:Value) (Q:St->Hp->Prop),Inv X pins σ H s->qbc v u->t v σ H Q ->
  wpAny (model X.prog X.w) X.A (assign target X.env u) (λ_ s'=>∃σ' H',Inv X pins σ' H' s'/\Q σ' H') X.xe s
def PGs (X:Cx)(ts:List Expr)(t:TGs):Prop :=
 ∀(pins:List (Addr×Obj)) (s:Shared) (σ:St) (H:Hp) (vs:List V) (us:List Value) (Q:St->Hp->Prop),Inv X pins σ H s->qaN vs us->t vs σ H Q ->
  wpAny (model X.prog X.w) X.A (assignInOrder ((assignEach ts X.env).map (·.2)) us) (λ_ s'=>∃σ' H',Inv X pins σ' H' s'/\Q σ' H') X.xe s
abbrev qtH:=V->V->V->Hp->(Hp->Prop)->Prop
def quz (X:Cx)(t:qtH):Prop :=
 ∀(pins:List (Addr×Obj)) (s:Shared) (σ:St) (H:Hp) (o i v:V) (ov iv u:Value) (Q:Hp->Prop),Inv X pins σ H s->qbc o ov->qbc i iv->qbc v u->t o i v H Q ->
  wpAny (model X.prog X.w) X.A (setItem ov iv u) (λ_ s'=>∃H',Inv X pins σ H' s'/\Q H') X.xe s
section
variable {X:Cx}{pos:Pos}
def qh4 (i:Nat):TG:=λv σ H Q=>Q (σ.set i (some v)) H
theorem qam {i:Nat}{x:Str}(hN:X.N.Nodup)(hi:X.N[i]?=some x)(hx:Loc X.env.scope x)(hf:X.fn x=true\/X.env.scope.names.lookup x=some .local:=by first | exact .inl rfl | exact .inr rfl | assumption):PG X (.Name x pos) (qh4 i):=by
 intro pins s σ H v u Q I r h;exact wpAny_assign_Name (qgx I hN hi hx r (λs' I'=>⟨_,H,I',h⟩) hf)
def qtA:TGs:=λvs σ H Q=>vs=[]/\Q σ H
def qom (t:TG)(u:TGs):TGs:=λvs σ H Q=>∃v r,vs=v::r/\t v σ H λσ' H'=>u r σ' H' Q
theorem qen:PGs X [] qtA:=by
 intro pins s σ H vs us Q I r h;obtain⟨e,h⟩:=h;subst e;cases r;exact assignInOrder_nil ⟨σ,H,I,h⟩
theorem qa1 {e:Expr}{es:List Expr}{t:TG}{u:TGs}(h1:PG X e t)(h2:PGs X es u)
 (hs:(assignEach (e::es) X.env).map (·.2)=assign e X.env::(assignEach es X.env).map (·.2):=by rfl):PGs X (e::es) (qom t u):=by
 intro pins s σ H vs us Q I r h;obtain⟨v,vr,e1,h⟩:=h;subst e1;cases r with
 | cons r rr =>
  rw[hs];refine assignInOrder_cons (thn (h1 pins s σ H _ _ _ I r h) λ_ s1 ⟨σ1,H1,I1,q1⟩=>?_);exact h2 pins s1 σ1 H1 _ _ Q I1 rr q1
def qtZ (K:PySem.W.Frag)(n:Nat)(t:TGs):TG:=λv σ H Q=>∃a xs,v = .ref a/\SqT K H a xs/\xs.length=n/\t xs σ H Q
theorem qgq {es:List Expr}{k:Nat}{t:TGs}{n:Nat}(hc:X.calm=true)(h:PGs X es t)
 (hn:(assignEach es X.env).length=n:=by rfl)(hst:(assignEach es X.env).findIdx? (·.1)=none:=by rfl):PG X (.Tuple es k pos) (qtZ X.K n t):=by
 intro pins s σ H v u Q I r hw;obtain⟨a,xs,e1,hq,hl,hw⟩:=hw;subst e1;cases r;obtain⟨its,rv,ht,hz⟩:=I.tuple hq;refine assign_Tuple_tuple (I.ok.hd hc) ht (by simp[hn,<-hl,rv.length]) hst λh' hx=>?_;have I1:Inv X pins σ H { s with heap:=h' }:=I.kept (t':=s.toks) λb o e=>hx b o (ydx (ydv e)) e;exact h pins _ σ H xs _ Q I1 (by simpa using rv) hw
def quy (to ti:TE)(t:qtH):TG:=λv σ H Q=>to σ H λo H1=>ti σ H1 λi H2=>t o i v H2 λH3=>Q σ H3
theorem qrv {o i:Expr}{to ti:TE}{t:qtH}(ho:PE X o to)(hi:PE X i ti)(hs:quz X t)
 (ha:∀v,assign (.Subscript o i pos) X.env v=(do
  let ov <-holding [v] (eval o X.env)
  let iv <-holding [v,ov] (eval i X.env)
  standAt pos
  holding [v,ov,iv] (setItem ov iv v)
  release [v,ov,iv] []):=by intro _;rfl):PG X (.Subscript o i pos) (quy to ti t):=by
 intro pins s σ H v u Q I r h;rw[ha];refine wpAny_bind (wpAny_holding (thn (ho pins s σ H _ I h) λov s1 ⟨x,H1,I1,r1,q1⟩=>?_));refine wpAny_bind (wpAny_holding (thn (hi pins s1 σ H1 _ I1 q1) λiv s2 ⟨y,H2,I2,r2,q2⟩=>?_));refine wpAny_bind (wpAny_standAt (wpAny_bind (wpAny_holding (thn (hs pins s2 σ H2 x y v ov iv u _ I2 r1 r2 r q2) λ_ s3 ⟨H3,I3,q3⟩=>?_))));exact wpAny_release ⟨σ,H3,I3,q3⟩
def qsR (te:TE)(g:TG):TS:=λD σ H=>te σ H λx H1=>g x σ H1 D.nx
theorem qmC {tg e:Expr}{te:TE}{g:TG}(he:PE X e te)(hg:PG X tg g)(hs:swapsWithSole [tg] e pos.line X.env=pure false:=by rfl)(hw:swappedStores [tg] e X.env=pure none:=by rfl)
 (h1:(assignEach [tg] X.env).map (·.2)=[assign tg X.env]:=by rfl):PS X (.Assign [tg] e pos) (qsR te g):=by
 intro pins s σ H D I h;refine wpAny_Assign_stores (thn (he pins s σ H _ I h) λv s1 ⟨x,H1,I1,r1,q1⟩=>?_) hs hw;rw[h1];exact thn (hg pins s1 σ H1 x v _ I1 r1 q1) λ_ s2 q=>q
theorem qat {i:Nat}{x:Str}{e:Expr}{te:TE}{pos':Pos}(hN:X.N.Nodup)(hi:X.N[i]?=some x)(hx:Loc X.env.scope x)(he:PE X e te)(hs:swapsWith e (some (.Name x pos')) pos.line X.env=pure false:=by rfl)(hf:X.fn x=true\/X.env.scope.names.lookup x=some .local:=by first | exact .inl rfl | exact .inr rfl | assumption) :
 PS X (.Assign [.Name x pos'] e pos) (qsR te (qh4 i)):=by
 intro pins s σ H D I h;refine wpAny_Assign_Name (thn (he pins s σ H _ I h) λv s1 ⟨y,H1,I1,r1,q1⟩=>?_) hs;exact qgx I1 hN hi hx r1 (λs2 I2=>⟨_,H1,I2,q1⟩) hf
def qu4 (i j:Nat)(ta:TA):TS:=λD σ H=>ta σ H λvs H1=>∃v w,vs=[v,w]/\D.nx ((σ.set i (some v)).set j (some w)) H1
end
section
variable {X:Cx}{pos:Pos}
def qjz (c:TT)(tb:TS):TS:=λD σ H=>∃W:Nat->St->Hp->Prop,(∃m,W m σ H)/\∀m σ H,W m σ H ->
 c σ H λb H1=>if b=true then ∃N:St->Hp->Prop,(∀σ' H',N σ' H'->∃m',m'<m/\W m' σ' H')/\tb { D with nx:=N,ct:=N,bk:=D.nx } σ H1 else D.nx σ H1
theorem qoI {c:Expr}{body:List Stmt}{tc:TT}{tb:TS}(hp:PassesOwn (model X.prog X.w) X.A X.env X.xe)(hc:PT X c tc)(hb:PSs X body tb):PS X (.While c body [] pos) (qjz tc tb):=by
 intro pins s σ H D I h;obtain⟨W,⟨m0,w0⟩,turn⟩:=h;refine wpAny_While (codeAny_whileLoop (λn s'=>∃σ' H',Inv X pins σ' H' s'/\W n σ' H') ?_ m0 ⟨σ,H,I,w0⟩);rintro n s1 ⟨σ1,H1,I1,w1⟩;refine wpAny_passesOwn hp (thn (hc pins s1 σ1 H1 _ I1 (turn n σ1 H1 w1)) λb s2 ⟨H2,I2,q2⟩=>?_);cases b with
 | true =>
  obtain⟨N,hN,q2⟩:=q2;rw[if_pos rfl];refine wpAny_passesOwn hp (thn (hb pins s2 σ1 H2 _ I2 q2) λf s3 q3=>?_);cases f with
  | next =>
   obtain⟨σ3,H3,I3,n3⟩:=q3;obtain⟨m',hm,w3⟩:=hN σ3 H3 n3;exact⟨m',hm,σ3,H3,I3,w3⟩
  | cont =>
   obtain⟨σ3,H3,I3,n3⟩:=q3;obtain⟨m',hm,w3⟩:=hN σ3 H3 n3;exact⟨m',hm,σ3,H3,I3,w3⟩
  | brk=>exact q3
  | ret v=>exact q3
 | false =>
  rw[if_neg yet];exact wpAny_execs_nil ⟨σ1,H2,I2,q2⟩
end
structure It where
 go:Nat->Hp->Prop
 yld:Nat->Hp->V->Hp->Prop
 stop:Nat->Hp->Prop
def qhL (X:Cx)(pins:List (Addr×Obj))(H:Hp)(b:Addr):Prop :=
 H b=none/\b≠X.env.locals/\b∉X.fs/\(b∈X.ex\/X.s₀.heap.objs.size<=b)/\(∀x c,X.env.cells.lookup x=some c->c≠b)/\∀p∈X.pn++pins,p.1≠b
theorem Inv.fpOk {X:Cx}{pins:List (Addr×Obj)}{σ:St}{H H':Hp}{s:Shared}{b:Addr}(I:Inv X pins σ H s)(hb:s.heap.objs.size<=b)(hn:H' b=none):qhL X pins H' b:=by
 refine⟨hn,yea (yae I.lt hb),I.nofs hb,.inr (ybn I.sz hb),λx c e z=>?_,λp hp z=>?_⟩
 .obtain⟨v,q⟩:=I.cell x c e
  exact absurd (yae q.lt (by rw[z];exact hb)) (yen _)
 .exact absurd (yae (ydv (I.pin p hp).1) (by rw[z];exact hb)) (yen _)
structure qlr (P:Program)(w:World)(K:PySem.W.Frag)(tg:Expr)(J:It)(fp:List Addr)(it:Addr)(tn:Nat->Heap->Prop):Prop where
 mem:it∈fp
 obj:∀i h,tn i h->∀b∈fp,∃o,h.get? b=some o/\∀v,o.data ≠ .cell v
 keep:∀i h h',tn i h->(∀b∈fp,∀o,h.get? b=some o->h'.get? b=some o)->tn i h'
 item:∀(X:Cx),X.prog=P->X.w=w->X.K=K->X.calm=true->∀(i:Nat) (pins:List (Addr×Obj)) (s:Shared) (σ:St) (H:Hp) (E:Value->Shared->Prop),Inv X pins σ H s->(∀b∈fp,qhL X pins H b)->tn i s.heap->J.go i H ->
  wpAny (model P w) X.A (pyNext (.ref it)) (λr s1=>∃u,r=some u /\
   wpAny (model P w) X.A (letOwnedTupleGo tg (.ref it) u) (λ_ s2=>∃x H',Inv X pins σ H' s2/\qbc x u/\J.yld i H x H'/\tn (i+1) s2.heap/\∀b∈fp,H' b=none) E s1) E s
 done:∀(X:Cx),X.prog=P->X.w=w->X.K=K->X.calm=true->∀(i:Nat) (pins:List (Addr×Obj)) (s:Shared) (σ:St) (H:Hp) (E:Value->Shared->Prop),Inv X pins σ H s->(∀b∈fp,qhL X pins H b)->tn i s.heap->J.stop i H ->
  wpAny (model P w) X.A (pyNext (.ref it)) (λr s1=>r=none/\Inv X pins σ H s1) E s
 self:∀(A:Around) (i:Nat) (s:Shared) (Q:Value->Shared->Prop) (E:Value->Shared->Prop),tn i s.heap->Q (.ref it) s->wpAny (model P w) A (pyIter (.ref it)) Q E s
abbrev TI:=St->Hp->(It->Hp->Prop)->Prop
def PIE (X:Cx)(pins:List (Addr×Obj))(σ:St)(tg:Expr)(R:It->Hp->Prop)(itv:Value)(s2:Shared):Prop :=
 ∃(it:Addr) (fp:List Addr) (tn:Nat->Heap->Prop) (J:It) (H':Hp),itv = .ref it/\Inv X pins σ H' s2/\qlr X.prog X.w X.K tg J fp it tn/\tn 0 s2.heap/\(∀b∈fp,qhL X pins H' b)/\R J H'
def PI (X:Cx)(tg iter:Expr)(wi:TI):Prop :=
 ∀(pins:List (Addr×Obj)) (s:Shared) (σ:St) (H:Hp) (R:It->Hp->Prop),Inv X pins σ H s->wi σ H R ->
  wpAny (model X.prog X.w) X.A (eval iter X.env) (λv s1=>wpAny (model X.prog X.w) X.A (pyIter v) (PIE X pins σ tg R) X.xe s1) X.xe s
theorem ql7 {M:Model}{A:Around}{E:Value->Shared->Prop}{s:Shared}{tg:Expr}{it:Addr}{u:Value}{o:Obj}{n:String}{vs:Array Value}{Q:Unit->Shared->Prop}(ho:s.heap.get? it=some o)(hc:o.cls = .type n)(hd:o.data = .fields vs)
   (hn:["enumerate", "zip", "dict_itemiterator", "dict_reverseitemiterator", "odict_iterator", "itertools.zip_longest", "itertools.pairwise"].contains n=false)(hQ:Q () s):wpAny M A (letOwnedTupleGo tg (.ref it) u) Q E s:=by
 unfold letOwnedTupleGo
 cases tg<;>first
   | exact wpAny_pure hQ
   | (cases u<;>first
       | exact wpAny_pure hQ
       | (refine wpAny_bind (wpAny_load ho ?_)
          rw[hc,hd];show wpAny M A (if (["enumerate", "zip", "dict_itemiterator", "dict_reverseitemiterator", "odict_iterator", "itertools.zip_longest", "itertools.pairwise"].contains n&&vs[0]?==some (rawInt _))=true then _ else _) Q E s;rw[if_neg (by intro h;rw[hn,yeu] at h;cases h)];exact wpAny_pure hQ))
def Itl (K:PySem.W.Frag)(a:Addr):It :=
 ⟨λi H=>∃xs x,SqL K H a xs/\xs[i]?=some x,λi H x H'=>H'=H/\∀xs,SqL K H a xs->xs[i]?=some x,λi H=>∃xs,SqL K H a xs/\xs.length<=i⟩
def Itt (K:PySem.W.Frag)(a:Addr):It :=
 ⟨λi H=>∃xs x,SqT K H a xs/\xs[i]?=some x,λi H x H'=>H'=H/\∀xs,SqT K H a xs->xs[i]?=some x,λi H=>∃xs,SqT K H a xs/\xs.length<=i⟩
def Itr (lo:Int)(n:Nat):It:=⟨λi _=>i<n,λi H x H'=>H'=H/\x = .int (lo+i),λi _=>n<=i⟩
theorem qm9 {P:Program}{w:World}{K:PySem.W.Frag}{tg:Expr}(a it:Addr):qlr P w K tg (Itl K a) [it] it (λi h=>h.IsListIter it a i) where
 mem:=by simp
 obj:=λi h st b hb=>by
  have e:b=it:=by simpa using hb
  subst e;obtain⟨o,e,c,d⟩:=st;exact⟨o,e,λv z=>by rw[d] at z;cases z⟩
 keep:=λi h h' st k=>st.at λo e=>k it (by simp) o e
 item:=by
  intro X hP hw hK hc i pins s σ H E I hf st hg;subst hP hw hK;obtain⟨xs,x,hq,hx⟩:=hg;obtain⟨its,rv,p,hz⟩:=I.list hq;obtain⟨u,hu,ru⟩:=rv.get hx;obtain⟨f0,f1,f2,f3,f4,f5⟩:=hf it (by simp);refine wpAny_pyNext_list_item st p.isList (x:=u) (by simpa using hu) λh' st' sb=>?_;have I1:Inv X pins σ H { s with heap:=h' }:=I.turned (t':=s.toks) (λb o hb e=>(sb.2 b hb).trans e) f0 f1 f3 f4 f5;obtain⟨o,e,c,d⟩:=id st';exact⟨u,rfl,ql7 (s:={ s with heap:=h' }) e c d (by decide) ⟨x,H,I1,ru,⟨rfl,λys hy=>by rw[I.list_inj hy hq];exact hx⟩,st',λb hb=>(hf b hb).1⟩⟩
 done:=by
  intro X hP hw hK hc i pins s σ H E I hf st hg;subst hP hw hK;obtain⟨xs,hq,hx⟩:=hg;obtain⟨its,rv,p,hz⟩:=I.list hq;obtain⟨f0,f1,f2,f3,f4,f5⟩:=hf it (by simp);have hl:=rv.length;exact wpAny_pyNext_list_end (I.ok.hd hc) st p.isList (by simp;omega) λh' eb=>⟨rfl,I.turned (t':=s.toks) (λb o hb e=>eb b o hb e) f0 f1 f3 f4 f5⟩
 self:=λ_ _ _ _ _ st h=>wpAny_pyIter_listiter st h
theorem qj2 {P:Program}{w:World}{K:PySem.W.Frag}{tg:Expr}(a it:Addr):qlr P w K tg (Itt K a) [it] it (λi h=>h.IsTupleIter it a i) where
 mem:=by simp
 obj:=λi h st b hb=>by
  have e:b=it:=by simpa using hb
  subst e;obtain⟨o,e,c,d⟩:=st;exact⟨o,e,λv z=>by rw[d] at z;cases z⟩
 keep:=λi h h' st k=>st.at λo e=>k it (by simp) o e
 item:=by
  intro X hP hw hK hc i pins s σ H E I hf st hg;subst hP hw hK;obtain⟨xs,x,hq,hx⟩:=hg;obtain⟨its,rv,p,hz⟩:=I.tuple hq;obtain⟨u,hu,ru⟩:=rv.get hx;obtain⟨f0,f1,f2,f3,f4,f5⟩:=hf it (by simp);refine wpAny_pyNext_tuple_item st (show s.heap.IsTuple a its.toArray from p) (x:=u) (by simpa using hu) λh' st' sb=>?_;have I1:Inv X pins σ H { s with heap:=h' }:=I.turned (t':=s.toks) (λb o hb e=>(sb.2 b hb).trans e) f0 f1 f3 f4 f5;obtain⟨o,e,c,d⟩:=id st';exact⟨u,rfl,ql7 (s:={ s with heap:=h' }) e c d (by decide) ⟨x,H,I1,ru,⟨rfl,λys hy=>by rw[I.tuple_inj hy hq];exact hx⟩,st',λb hb=>(hf b hb).1⟩⟩
 done:=by
  intro X hP hw hK hc i pins s σ H E I hf st hg;subst hP hw hK;obtain⟨xs,hq,hx⟩:=hg;obtain⟨its,rv,p,hz⟩:=I.tuple hq;obtain⟨f0,f1,f2,f3,f4,f5⟩:=hf it (by simp);have hl:=rv.length;exact wpAny_pyNext_tuple_end (I.ok.hd hc) st (show s.heap.IsTuple a its.toArray from p) (by simp;omega) λh' eb=>⟨rfl,I.turned (t':=s.toks) (λb o hb e=>eb b o hb e) f0 f1 f3 f4 f5⟩
 self:=λ_ _ _ _ _ st h=>wpAny_pyIter_tupleiter st h
theorem qkh {P:Program}{w:World}{K:PySem.W.Frag}{tg:Expr}(it:Addr)(lo:Int)(n:Nat):qlr P w K tg (Itr lo n) [it] it (λi h=>IsRangeIter h it (lo+(i:Nat)*1) ((n:Int)-(i:Nat)) 1) where
 mem:=by simp
 obj:=λi h st b hb=>by
  have e:b=it:=by simpa using hb
  subst e
  exact⟨_,st,λv z=>by
   have z':Data.fields _=Data.cell v:=z;cases z'⟩
 keep:=λi h h' st k=>k it (by simp) _ st
 item:=by
  intro X hP hw hK hc i pins s σ H E I hf st hg;subst hP hw hK;obtain⟨f0,f1,f2,f3,f4,f5⟩:=hf it (by simp);have W:=Walks.range (prog:=X.prog) (w:=X.w) (I.ok.hd hc) it lo 1 n;refine W.item i s _ _ hg st λv h' tk hv st' kk=>?_;obtain⟨t,rfl⟩:=hv;have I1:Inv X pins σ H { s with heap:=h',toks:=tk }:=I.turned (λb o hb e=>kk b o (by simpa using hb) e) f0 f1 f3 f4 f5;refine⟨_,rfl,ql7 (s:={ s with heap:=h',toks:=tk }) (n := "range_iterator") st' rfl rfl (by decide) ⟨.int (lo+i),H,I1,⟨t,?_⟩,⟨rfl,rfl⟩,st',λb hb=>(hf b hb).1⟩⟩;rw[Int.mul_one]
 done:=by
  intro X hP hw hK hc i pins s σ H E I hf st hg;subst hP hw hK;obtain⟨f0,f1,f2,f3,f4,f5⟩:=hf it (by simp);exact wpAny_pyNext_range_end (I.ok.hd hc) st (by have:n<=i:=hg;omega) λh' eb=>⟨rfl,I.turned (t':=s.toks) (λb o hb e=>eb b o hb e) f0 f1 f3 f4 f5⟩
 self:=λ_ _ _ _ _ st h=>wpAny_pyIter_rangeiter st h
end L2
namespace L2
open PySem PySem.Spec PyProof.Rows
section
variable {X:Cx}{tg:Expr}
def qoe (K:PySem.W.Frag)(tl:TE):TI:=λσ H R=>tl σ H λx H1=>∃a,x = .ref a/\(∃xs,SqL K H1 a xs)/\R (Itl K a) H1
def qt7 (K:PySem.W.Frag)(tl:TE):TI:=λσ H R=>tl σ H λx H1=>∃a,x = .ref a/\(∃xs,SqT K H1 a xs)/\R (Itt K a) H1
theorem qaE {l:Expr}{tl:TE}(hl:PE X l tl):PI X tg l (qoe X.K tl):=by
 intro pins s σ H R I h;refine thn (hl pins s σ H _ I h) λv s1 ⟨x,H1,I1,r1,q1⟩=>?_;obtain⟨a,e,⟨xs,hq⟩,q⟩:=q1;subst e;cases r1;obtain⟨its,rv,p,hz⟩:=I1.list hq;refine wpAny_pyIter_list p.isList ?_;refine⟨s1.heap.objs.size,[s1.heap.objs.size],_,_,H1,rfl,I1.kept (t':=s1.toks) λb o e=>ydu _ e,qm9 a _,⟨_,ydt _ rfl,rfl,rfl⟩,λb hb=>?_,q⟩;have e:b=s1.heap.objs.size:=by simpa using hb
 subst e;exact I1.fpOk (yaz _) (I1.hok.fresh (yaz _))
theorem qsZ {l:Expr}{tl:TE}(hl:PE X l tl):PI X tg l (qt7 X.K tl):=by
 intro pins s σ H R I h;refine thn (hl pins s σ H _ I h) λv s1 ⟨x,H1,I1,r1,q1⟩=>?_;obtain⟨a,e,⟨xs,hq⟩,q⟩:=q1;subst e;cases r1;obtain⟨its,rv,p,hz⟩:=I1.tuple hq;refine wpAny_pyIter_tuple (show s1.heap.IsTuple a its.toArray from p) ?_;refine⟨s1.heap.objs.size,[s1.heap.objs.size],_,_,H1,rfl,I1.kept (t':=s1.toks) λb o e=>ydu _ e,qj2 a _,⟨_,ydt _ rfl,rfl,rfl⟩,λb hb=>?_,q⟩;have e:b=s1.heap.objs.size:=by simpa using hb
 subst e;exact I1.fpOk (yaz _) (I1.hok.fresh (yaz _))
theorem qjE {pins:List (Addr×Obj)}{σ:St}{H:Hp}{s:Shared}{R:It->Hp->Prop}{E:Value->Shared->Prop}{lo hi:Int}{t u v:Tok}{tk:Nat}(I:Inv X pins σ H s)(h1:-(2^62)<=lo)(h2:lo<2^62)(h3:-(2^62)<=hi)(h4:hi<2^62)
 (q:R (Itr lo (hi-lo).toNat) H):wpAny (model X.prog X.w) X.A (pyIter (.ref s.heap.objs.size)) (PIE X pins σ tg R) E { s with heap:=s.heap.push { cls := .type "range",data := .fields #[.int lo t,.int hi u,.int 1 v] },toks:=tk }:=by
 refine wpAny_pyIter_range (IsRange.new ..) (small_one h1 h2 h3 h4) ?_;have I1:Inv X pins σ H { s with heap:=s.heap.push { cls := .type "range",data := .fields #[.int lo t,.int hi u,.int 1 v] },toks:=tk }:=I.kept λb o e=>ydu _ e
 refine⟨(s.heap.push { cls := .type "range",data := .fields #[.int lo t,.int hi u,.int 1 v] }).objs.size,[(s.heap.push { cls := .type "range",data := .fields #[.int lo t,.int hi u,.int 1 v] }).objs.size],_,_,H,rfl,
  I1.kept (t':=tk) λb o e=>ydu _ e,qkh _ lo (hi-lo).toNat,?_,λb hb=>?_,q⟩
 .have e1:lo+((0:Nat):Int)*1=lo:=by simp
  have e2:(((hi-lo).toNat:Nat):Int)-((0:Nat):Int)=Builtin.Range.rangeSize lo hi 1:=by rw[rangeSize_one];split<;>omega
  show IsRangeIter _ _ (lo+((0:Nat):Int)*1) ((((hi-lo).toNat:Nat):Int)-((0:Nat):Int)) 1;rw[e1,e2];exact ydt _ rfl
 .have e:b=(s.heap.push { cls := .type "range",data := .fields #[.int lo t,.int hi u,.int 1 v] }).objs.size:=by simpa using hb
  subst e;exact I1.fpOk (yaz _) (I1.hok.fresh (yaz _))
def qqB (ta:TA):TI:=λσ H R=>ta σ H λvs H1=>∃j:Int,vs=[.int j]/\-(2^62)<=j/\j<2^62/\R (Itr 0 j.toNat) H1
def qqK (ta:TA):TI:=λσ H R=>ta σ H λvs H1=>∃i j:Int,vs=[.int i,.int j]/\(-(2^62)<=i/\i<2^62/\-(2^62)<=j/\j<2^62)/\R (Itr i (j-i).toNat) H1
theorem qaG {a:Expr}{ta:TA}{p pos:Pos}(hg:Gl X "range")(hm:X.mg "range" = none)(ha:PA X [a] ta)(hs:starEach [a] X.env=[(false,eval a X.env)]:=by rfl):PI X tg (.Call (.Name "range" p) [a] [] pos) (qqB ta):=by
 intro pins s σ H R I h;refine Call_ (qdc I hg hm boot_range (PyProof.Rows.callWith_type1 (thn (ha pos pins s σ H _ I h) λus s1 ⟨vs,H1,I1,r1,q1⟩=>?_) hs rfl));obtain⟨j,e,q1,q2,q⟩:=q1;subst e;cases r1 with
 | cons r rr =>
  cases rr;obtain⟨t,rfl⟩:=r;exact call_range_1 (qjE I1 (by omega) (by omega) q1 q2 (by simpa using q))
theorem qh0 {a b:Expr}{ta:TA}{p pos:Pos}(hg:Gl X "range")(hm:X.mg "range" = none)(ha:PA X [a,b] ta)(hs:starEach [a,b] X.env=[(false,eval a X.env),(false,eval b X.env)]:=by rfl)(hs2:starEach [b] X.env=[(false,eval b X.env)]:=by rfl) :
 PI X tg (.Call (.Name "range" p) [a,b] [] pos) (qqK ta):=by
 intro pins s σ H R I h;refine Call_ (qdc I hg hm boot_range (PyProof.Rows.callWith_type1 (thn (ha pos pins s σ H _ I h) λus s1 ⟨vs,H1,I1,r1,q1⟩=>?_) (by rw[hs,hs2]) (by rw[hs2];rfl)));obtain⟨i,j,e,⟨q1,q2,q3,q4⟩,q⟩:=q1;subst e;cases r1 with
 | cons r rr =>
  cases rr with
  | cons r' rr =>
   cases rr;obtain⟨t,rfl⟩:=r;obtain⟨t',rfl⟩:=r';exact call_range_2 (qjE I1 q1 q2 q3 q4 q)
def qnh (wi:TI)(g:TG)(tb:TS):TS:=λD σ H=>wi σ H λJ H1=>∃W:Nat->Nat->St->Hp->Prop,(∃m,W 0 m σ H1)/\∀i m σ H,W i m σ H ->
 (J.stop i H/\D.nx σ H)\/(J.go i H/\∃N:St->Hp->Prop,(∀σ' H',N σ' H'->∃m',m'<m/\W (i+1) m' σ' H')/\∀x H',J.yld i H x H'->g x σ H' λσ2 H2=>tb { D with nx:=N,ct:=N,bk:=D.nx } σ2 H2)
def qgn (fp:List Addr)(h:Heap):List (Addr×Obj):=fp.filterMap λb=>(h.get? b).map λo=>(b,o)
theorem qbH {fp:List Addr}{h:Heap}{b:Addr}{o:Obj}(hb:b∈fp)(e:h.get? b=some o):(b,o)∈qgn fp h:=ydo.mpr ⟨b,hb,by rw[e];rfl⟩
theorem qmM {fp:List Addr}{h:Heap}{p:Addr×Obj}(hp:p∈qgn fp h):p.1∈fp/\h.get? p.1=some p.2:=by
 obtain⟨b,hb,e⟩:=ydo.mp hp;cases q:h.get? b with
 | none=>rw[q] at e;cases e
 | some o =>
  rw[q] at e;have e':(b,o)=p:=Option.some.inj e;subst e';exact⟨hb,q⟩
theorem Inv.pinned {pins:List (Addr×Obj)}{σ:St}{H:Hp}{s:Shared}{fp:List Addr}(I:Inv X pins σ H s)(hf:∀b∈fp,qhL X pins H b)(ho:∀b∈fp,∃o,s.heap.get? b=some o/\∀v,o.data ≠ .cell v):Inv X (pins++qgn fp s.heap) σ H s :=
 I.pins_of λp hp=>(yav.mp hp).elim (λz=>I.pin p (yev _ z)) λz=>by
  obtain⟨hb,e⟩:=qmM z;obtain⟨f0,f1,f2,_⟩:=hf p.1 hb;obtain⟨o,e',d⟩:=ho p.1 hb;rw[e] at e';cases e';exact⟨e,f0,f1,f2,d⟩
theorem Inv.unpinned {pins pl:List (Addr×Obj)}{σ:St}{H:Hp}{s:Shared}(I:Inv X (pins++pl) σ H s):Inv X pins σ H s:=I.pins_of λp hp=>I.pin p (yev _ (yau _ hp))
theorem qaZ {iter:Expr}{body:List Stmt}{wi:TI}{g:TG}{tb:TS}{pos:Pos}(hp:PassesOwn (model X.prog X.w) X.A X.env X.xe)(hc:X.calm=true)(hi:PI X tg iter wi)(hg:PG X tg g)(hb:PSs X body tb)
 (hs:∀x,foldedSetIterable iter X.env x=pure x:=by intro _;rfl):PS X (.For tg iter body [] pos) (qnh wi g tb):=by
 intro pins s σ H D I h;refine wpAny_For (thn (hi pins s σ H _ I h) λv s1 h1=>thn h1 λitv s2 h2=>?_) hs;obtain⟨it,fp,tn,J,H2,e,I2,T,st2,f2,W,⟨m0,w0⟩,turn⟩:=h2;subst e
 -- what stays true of the iterator's objects through the loop
 have stat:∀{H':Hp},(∀b∈fp,H' b=none)->∀b∈fp,qhL X pins H' b:=λhn b hb=>⟨hn b hb,(f2 b hb).2⟩;refine codeAny_forLoop_any (λn s'=>∃i σ' H',Inv X pins σ' H' s'/\tn i s'.heap/\(∀b∈fp,H' b=none)/\W i n σ' H') ?_ m0 ⟨0,σ,H2,I2,st2,λb hb=>(f2 b hb).1,w0⟩;rintro n s3 ⟨i,σ3,H3,I3,st3,fr3,w3⟩;rcases turn i n σ3 H3 w3 with⟨stop,qn⟩ | ⟨go,N,hN,step⟩
 .refine wpAny_passesOwn hp (thn (T.done X rfl rfl rfl hc i pins s3 σ3 H3 X.xe I3 (stat fr3) st3 stop) λr s4 ⟨hr,I4⟩=>?_)
  subst hr;exact wpAny_execs_nil ⟨σ3,H3,I4,qn⟩
 .refine wpAny_passesOwn hp (thn (T.item X rfl rfl rfl hc i pins s3 σ3 H3 X.xe I3 (stat fr3) st3 go) λr s4 ⟨u,hr,h4⟩=>?_)
  subst hr;refine wpAny_passesOwn hp (thn h4 λ_ s5 ⟨x,H5,I5,r5,y5,st5,fr5⟩=>?_);have I5':=I5.pinned (stat fr5) (T.obj _ _ st5);refine wpAny_passesOwn hp (thn (hg _ s5 σ3 H5 x u _ I5' r5 (step x H5 y5)) λ_ s6 ⟨σ6,H6,I6,q6⟩=>?_);refine wpAny_passesOwn hp (thn (hb _ s6 σ6 H6 _ I6 q6) λf s7 q7=>?_)
  have again:∀{σ7:St}{H7:Hp},Inv X (pins++qgn fp s5.heap) σ7 H7 s7->N σ7 H7->∃m,m<n/\∃i σ' H',Inv X pins σ' H' s7/\tn i s7.heap/\(∀b∈fp,H' b=none)/\W i m σ' H':=λ{σ7 H7} I7 n7=>by
   obtain⟨m',hm,w7⟩:=hN σ7 H7 n7;refine⟨m',hm,i+1,σ7,H7,I7.unpinned,T.keep _ _ _ st5 λb hb o e=>(I7.pin (b,o) (yev _ (yev _ (qbH hb e)))).1,λb hb=>?_,w7⟩;obtain⟨o,e,d⟩:=T.obj _ _ st5 b hb;exact(I7.pin (b,o) (yev _ (yev _ (qbH hb e)))).2.1
  cases f with
  | next=>obtain⟨σ7,H7,I7,n7⟩:=q7;exact again I7 n7
  | cont=>obtain⟨σ7,H7,I7,n7⟩:=q7;exact again I7 n7
  | brk=>obtain⟨σ7,H7,I7,q7⟩:=q7;exact⟨σ7,H7,I7.unpinned,q7⟩
  | ret v=>obtain⟨x7,σ7,H7,I7,r7,q7⟩:=q7;exact⟨x7,σ7,H7,I7.unpinned,r7,q7⟩
end
theorem qn5 {K:PySem.W.Frag}{a:Addr}{xs:List V}{g:TG}{tb:TS}{D:qfX}{σ:St}{H:Hp}(Pv:Nat->St->Hp->Prop)(h0:Pv 0 σ H)(hl:∀i σ H,i<=xs.length->Pv i σ H->SqL K H a xs)
 (hs:∀i x σ H,xs[i]?=some x->Pv i σ H->g x σ H λσ2 H2=>tb { D with nx:=Pv (i+1),ct:=Pv (i+1),bk:=D.nx } σ2 H2)(hd:∀σ H,Pv xs.length σ H->D.nx σ H) :
 ∃W:Nat->Nat->St->Hp->Prop,(∃m,W 0 m σ H)/\∀i m σ H,W i m σ H ->
  ((Itl K a).stop i H/\D.nx σ H)\/((Itl K a).go i H/\∃N:St->Hp->Prop,(∀σ' H',N σ' H'->∃m',m'<m/\W (i+1) m' σ' H')/\∀x H',(Itl K a).yld i H x H'->g x σ H' λσ2 H2=>tb { D with nx:=N,ct:=N,bk:=D.nx } σ2 H2):=by
 refine⟨λi m σ H=>m=xs.length-i/\i<=xs.length/\Pv i σ H,⟨xs.length,by simp,ybz _,h0⟩,?_⟩;rintro i m σ H ⟨rfl,hi,p⟩;have q:=hl i σ H hi p;by_cases hlt:i<xs.length
 .refine .inr ⟨⟨xs,xs[i],q,by simp[hlt]⟩,Pv (i+1),λσ' H' p'=>⟨xs.length-(i+1),by omega,rfl,hlt,p'⟩,λx H' y=>?_⟩
  obtain⟨e,y⟩:=y;subst e;exact hs i x σ _ (y xs q) p
 .have e:i=xs.length:=by omega
  subst e;exact .inl ⟨⟨xs,q,yaz _⟩,hd σ H p⟩
theorem qk3 {lo:Int}{n:Nat}{g:TG}{tb:TS}{D:qfX}{σ:St}{H:Hp}(Pv:Nat->St->Hp->Prop)(h0:Pv 0 σ H)
 (hs:∀i σ H,i<n->Pv i σ H->g (.int (lo+i)) σ H λσ2 H2=>tb { D with nx:=Pv (i+1),ct:=Pv (i+1),bk:=D.nx } σ2 H2)(hd:∀σ H,Pv n σ H->D.nx σ H) :
 ∃W:Nat->Nat->St->Hp->Prop,(∃m,W 0 m σ H)/\∀i m σ H,W i m σ H ->
  ((Itr lo n).stop i H/\D.nx σ H)\/((Itr lo n).go i H/\∃N:St->Hp->Prop,(∀σ' H',N σ' H'->∃m',m'<m/\W (i+1) m' σ' H')/\∀x H',(Itr lo n).yld i H x H'->g x σ H' λσ2 H2=>tb { D with nx:=N,ct:=N,bk:=D.nx } σ2 H2):=by
 refine⟨λi m σ H=>m=n-i/\i<=n/\Pv i σ H,⟨n,by simp,ybz _,h0⟩,?_⟩;rintro i m σ H ⟨rfl,hi,p⟩;by_cases hlt:i<n
 .refine .inr ⟨hlt,Pv (i+1),λσ' H' p'=>⟨n-(i+1),by omega,rfl,hlt,p'⟩,λx H' y=>?_⟩
  obtain⟨e,y⟩:=y;subst e y;exact hs i σ _ hlt p
 .have e:i=n:=by omega
  subst e;exact .inl ⟨yaz _,hd σ H p⟩
end L2
namespace L2
open PySem PySem.Spec PyProof.Rows
abbrev R2:=V->V->Hp->VK->Prop
def OpR (X:Cx)(f:Value->Value->Sem Value)(r:R2):Prop :=
 ∀(pins:List (Addr×Obj)) (s:Shared) (σ:St) (H:Hp) (x y:V) (v u:Value) (Q:VK),Inv X pins σ H s->qbc x v->qbc y u->r x y H Q ->
  wpAny (model X.prog X.w) X.A (f v u) (EP X pins σ Q) X.xe s
def UnR (X:Cx)(f:Value->Sem Value)(r:V->Hp->VK->Prop):Prop :=
 ∀(pins:List (Addr×Obj)) (s:Shared) (σ:St) (H:Hp) (x:V) (v:Value) (Q:VK),Inv X pins σ H s->qbc x v->r x H Q ->
  wpAny (model X.prog X.w) X.A (f v) (EP X pins σ Q) X.xe s
def qcl (X:Cx)(f:Value)(r:List V->Hp->VK->Prop):Prop :=
 ∀(pins:List (Addr×Obj)) (s:Shared) (σ:St) (H:Hp) (xs:List V) (us:List Value) (Q:VK),Inv X pins σ H s->qaN xs us->r xs H Q ->
  wpAny (model X.prog X.w) X.A (call f us) (EP X pins σ Q) X.xe s
def tOp (r:R2)(ta tb:TE):TE:=λσ H Q=>ta σ H λx H1=>tb σ H1 λy H2=>r x y H2 Q
def tUn (r:V->Hp->VK->Prop)(ta:TE):TE:=λσ H Q=>ta σ H λx H1=>r x H1 Q
def rI (C:Int->Int->Prop)(g:Int->Int->V):R2:=λx y H Q=>∃i j,x = .int i/\y = .int j/\C i j/\Q (g i j) H
def rI0 (g:Int->Int->V):R2:=λx y H Q=>∃i j,x = .int i/\y = .int j/\Q (g i j) H
def rU (g:Int->V):V->Hp->VK->Prop:=λx H Q=>∃i,x = .int i/\Q (g i) H
section
variable {X:Cx}{a b c:Expr}{ta tb tc:TE}{pos:Pos}
theorem qtx (ha:PE X a ta)(hb:PE X b tb){pins:List (Addr×Obj)}{s:Shared}{σ:St}{H:Hp}{R:V->V->Hp->Prop}(I:Inv X pins σ H s)
 (h:ta σ H λx H1=>tb σ H1 λy H2=>R x y H2){Q:Value->Shared->Prop}{f:Value->Value->Sem Value}
 (hf:∀v u s2 x y H2,Inv X pins σ H2 s2->qbc x v->qbc y u->R x y H2->wpAny (model X.prog X.w) X.A (f v u) Q X.xe s2) :
 wpAny (model X.prog X.w) X.A (eval a X.env) (λv s₁=>wpAny (model X.prog X.w) X.A (eval b X.env) (λu s₂=>wpAny (model X.prog X.w) X.A (f v u) Q X.xe s₂) X.xe s₁) X.xe s:=by
 refine thn (ha pins s σ H _ I h) λv s1 ⟨x,H1,I1,r1,q1⟩=>?_;refine thn (hb pins s1 σ H1 _ I1 q1) λu s2 ⟨y,H2,I2,r2,q2⟩=>?_;exact hf v u s2 x y H2 I2 r1 r2 q2
theorem qan {op:Operator}{r:R2}(ho:OpR X (binaryOp op) r)(ha:PE X a ta)(hb:PE X b tb):PE X (.BinOp a op b pos) (tOp r ta tb):=by
 intro pins s σ H Q I h;exact wpAny_BinOp (qtx ha hb I h λv u s2 x y H2 I2 rx ry q=>ho pins s2 σ H2 x y v u Q I2 rx ry q)
theorem qp5 {op:UnaryOp}{r:V->Hp->VK->Prop}(ho:UnR X (unaryOp op) r)(ha:PE X a ta):PE X (.UnaryOp op a pos) (tUn r ta):=by
 intro pins s σ H Q I h;exact UnaryOp_ (thn (ha pins s σ H _ I h) λv s1 ⟨x,H1,I1,r1,q1⟩=>ho pins s1 σ H1 x v Q I1 r1 q1)
theorem opI {f:Value->Value->Sem Value}{C:Int->Int->Prop}{g:Int->Int->Int}
 (rule:∀(i j:Int) (t u:Tok) (s:Shared) (Q:Value->Shared->Prop) (E:Value->Shared->Prop),C i j->Q (.int (g i j) s.toks) { s with toks:=s.toks+1 }->wpAny (model X.prog X.w) X.A (f (.int i t) (.int j u)) Q E s) :
 OpR X f (rI C λi j => .int (g i j)):=by
 intro pins s σ H x y v u Q I rx ry h;obtain⟨i,j,rfl,rfl,hc,q⟩:=h;obtain⟨t,rfl⟩:=rx;obtain⟨t',rfl⟩:=ry;exact rule i j t t' s _ _ hc ⟨.int (g i j),H,I.tok _,⟨_,rfl⟩,q⟩
theorem qtt {f:Value->Value->Sem Value}{g:Int->Int->Int}
 (rule:∀(i j:Int) (t u:Tok) (s:Shared) (Q:Value->Shared->Prop) (E:Value->Shared->Prop),Q (.int (g i j) s.toks) { s with toks:=s.toks+1 }->wpAny (model X.prog X.w) X.A (f (.int i t) (.int j u)) Q E s) :
 OpR X f (rI0 λi j => .int (g i j)):=by
 intro pins s σ H x y v u Q I rx ry h;obtain⟨i,j,rfl,rfl,q⟩:=h;obtain⟨t,rfl⟩:=rx;obtain⟨t',rfl⟩:=ry;exact rule i j t t' s _ _ ⟨.int (g i j),H,I.tok _,⟨_,rfl⟩,q⟩
theorem qts {f:Value->Value->Sem Value}{g:Int->Int->Bool}
 (rule:∀(i j:Int) (t u:Tok) (s:Shared) (Q:Value->Shared->Prop) (E:Value->Shared->Prop),Q (.bool (g i j)) s->wpAny (model X.prog X.w) X.A (f (.int i t) (.int j u)) Q E s) :
 OpR X f (rI0 λi j => .bl (g i j)):=by
 intro pins s σ H x y v u Q I rx ry h;obtain⟨i,j,rfl,rfl,q⟩:=h;obtain⟨t,rfl⟩:=rx;obtain⟨t',rfl⟩:=ry;exact rule i j t t' s _ _ ⟨.bl (g i j),H,I,rfl,q⟩
def qtM (i j:Int):Prop:=0<=j/\j<=1000000/\i.natAbs<2^64
def qub (i j:Int):Prop:=(-(2^64)<i/\i<2^64)\/(-(2^64)<j/\j<2^64)
theorem qub.ok {i j:Int}(h:qub i j):IntMulOk i j:=by
 rcases h with⟨h1,h2⟩ | ⟨h1,h2⟩
 .exact .of_left (intBits_le_64 h1 h2)
 .exact .of_right (intBits_le_64 h1 h2)
theorem qkA (k:Nat):(0:Int)<=2^k:=by
 rw[two_pow_cast];exact yew _
theorem qbf:OpR X (binaryOp .Add) (rI0 λi j => .int (i+j)):=qtt λ_ _ _ _ _ _ _ q=>add_int q
theorem qic:OpR X (binaryOp .Sub) (rI0 λi j => .int (i-j)):=qtt λ_ _ _ _ _ _ _ q=>sub_int q
theorem qgh:OpR X (binaryOp .Mult) (rI qub λi j => .int (i*j)):=opI λ_ _ _ _ _ _ _ hc q=>mul_int q hc.ok
theorem qa3:OpR X (binaryOp .Mod) (rI (λ_ j=>0<j) λi j => .int (i%j)):=opI λi j _ _ _ _ _ hc q=>by
 have h1:(0:Int)<j:=hc;exact mod_int' (by omega) (by rw[Int.fmod_eq_emod_of_nonneg i (by omega)];exact q)
theorem qsJ:OpR X (binaryOp .Pow) (rI qtM λi j => .int (i^j.toNat)):=opI λ_ _ _ _ _ _ _ hc q=>pow_int_small hc.1 hc.2.1 hc.2.2 q
theorem qa0:OpR X (binaryOp .LShift) (rI qtM λi j => .int (i*2^j.toNat)):=opI λ_ _ _ _ _ _ _ hc q=>lshift_int_small hc.1 hc.2.1 hc.2.2 q
theorem qeL:OpR X (binaryOp .RShift) (rI (λ_ j=>0<=j) λi j => .int (i/2^j.toNat)):=opI λi j _ _ _ _ _ hc q =>
 rshift_int hc (by rw[yex i (qkA _)];exact q)
theorem qce:OpR X (binaryOp .BitAnd) (rI0 λi j => .int (Builtin.bitAnd i j)):=qtt λ_ _ _ _ _ _ _ q=>and_int q
theorem qed:OpR X (binaryOp .BitOr) (rI0 λi j => .int (Builtin.bitOr i j)):=qtt λ_ _ _ _ _ _ _ q=>or_int q
theorem unI {f:Value->Sem Value}{g:Int->Int}
 (rule:∀(i:Int) (t:Tok) (s:Shared) (Q:Value->Shared->Prop) (E:Value->Shared->Prop),Q (.int (g i) s.toks) { s with toks:=s.toks+1 }->wpAny (model X.prog X.w) X.A (f (.int i t)) Q E s) :
 UnR X f (rU λi => .int (g i)):=by
 intro pins s σ H x v Q I rx h;obtain⟨i,rfl,q⟩:=h;obtain⟨t,rfl⟩:=rx;exact rule i t s _ _ ⟨.int (g i),H,I.tok _,⟨_,rfl⟩,q⟩
theorem qoX:UnR X (unaryOp .USub) (rU λi => .int (-i)):=unI λ_ _ _ _ _ q=>neg_int q
theorem qsi:UnR X (unaryOp .Invert) (rU λi => .int (Builtin.bitNot i)):=unI λ_ _ _ _ _ q=>invert_int q
end
def qnq:V->V->Bool
 | .non,.non=>true | .non,.int _=>true | .int _,.non=>true | .non,.bl _=>true | .bl _,.non=>true | .non,.str _=>true | .str _,.non=>true
 | .int _,.int _=>true | .bl _,.bl _=>true | .str _,.str _=>true | .byt _,.byt _=>true
 | .int _,.str _=>true | .str _,.int _=>true | .bl _,.str _=>true | .str _,.bl _=>true
 | _,_=>false
def rEq:R2:=λx y H Q=>qnq x y=true/\Q (.bl (decide (x=y))) H
def rNe:R2:=λx y H Q=>qnq x y=true/\Q (.bl (!decide (x=y))) H
theorem qmd {i j:Int}:decide (V.int i=V.int j)=(i==j):=by
 rw[yax];simp
theorem qpv {i j:Bool}:decide (V.bl i=V.bl j)=(i==j):=by
 rw[yax];simp
theorem qlq {i j:Str}:decide (V.str i=V.str j)=(i==j):=by
 rw[yax];simp
theorem qlV {i j:Array UInt8}:decide (V.byt i=V.byt j)=(i.toList==j.toList):=by
 rw[yax];cases i;cases j;simp
section
variable {X:Cx}{a b c:Expr}{ta tb tc:TE}{pos:Pos}
theorem qaL {pins:List (Addr×Obj)}{σ:St}{H:Hp}{s:Shared}{Q:VK}{k k':Bool}(I:Inv X pins σ H s)(q:Q (.bl k) H)(e:k=k'):EP X pins σ Q (.bool k') s:=by
 subst e;exact⟨.bl k,H,I,rfl,q⟩
theorem qtV:OpR X (compareOp .Eq) rEq:=by
 intro pins s σ H x y v u Q I rx ry h;obtain⟨hs,q⟩:=h;cases x with
 | non =>
  cases rx;cases y with
  | non=>cases ry;exact PySem.EqNone.eq_none_none (qaL I q (by simp))
  | bl j=>cases ry;exact PySem.EqNone.eq_none_bool (qaL I q (by simp))
  | int j=>obtain⟨t',rfl⟩:=ry;exact PySem.EqNone.eq_none_int (qaL I q (by simp))
  | str j=>obtain⟨t',rfl⟩:=ry;exact PySem.EqNone.eq_none_str (qaL I q (by simp))
  | _=>exact absurd (show false=true from hs) yet
 | bl i =>
  cases rx;cases y with
  | non=>cases ry;exact PySem.EqNone.eq_bool_none (qaL I q (by simp))
  | bl j=>cases ry;exact eq_bool (qaL I q qpv)
  | str j=>obtain⟨t',rfl⟩:=ry;exact PySem.EqMixed.eq_bool_str (qaL I q (by simp))
  | _=>exact absurd (show false=true from hs) yet
 | int i =>
  obtain⟨t,rfl⟩:=rx;cases y with
  | non=>cases ry;exact PySem.EqNone.eq_int_none (qaL I q (by simp))
  | int j=>obtain⟨t',rfl⟩:=ry;exact eq_int (qaL I q qmd)
  | str j=>obtain⟨t',rfl⟩:=ry;exact PySem.EqMixed.eq_int_str (qaL I q (by simp))
  | _=>exact absurd (show false=true from hs) yet
 | str i =>
  obtain⟨t,rfl⟩:=rx;cases y with
  | non=>cases ry;exact PySem.EqNone.eq_str_none (qaL I q (by simp))
  | bl j=>cases ry;exact PySem.EqMixed.eq_str_bool (qaL I q (by simp))
  | int j=>obtain⟨t',rfl⟩:=ry;exact PySem.EqMixed.eq_str_int (qaL I q (by simp))
  | str j=>obtain⟨t',rfl⟩:=ry;exact eq_str (qaL I q qlq)
  | _=>exact absurd (show false=true from hs) yet
 | byt i =>
  obtain⟨t,rfl⟩:=rx;cases y with
  | byt j=>obtain⟨t',rfl⟩:=ry;exact PySem.W.eq_bytes (qaL I q qlV)
  | _=>exact absurd (show false=true from hs) yet
 | _=>cases y<;>exact absurd (show false=true from hs) yet
theorem qui:OpR X (compareOp .NotEq) rNe:=by
 intro pins s σ H x y v u Q I rx ry h;obtain⟨hs,q⟩:=h;cases x with
 | non =>
  cases rx;cases y with
  | non=>cases ry;exact PySem.EqNone.ne_none_none (qaL I q (by simp))
  | bl j=>cases ry;exact PySem.EqNone.ne_none_bool (qaL I q (by simp))
  | int j=>obtain⟨t',rfl⟩:=ry;exact PySem.EqNone.ne_none_int (qaL I q (by simp))
  | str j=>obtain⟨t',rfl⟩:=ry;exact PySem.EqNone.ne_none_str (qaL I q (by simp))
  | _=>exact absurd (show false=true from hs) yet
 | bl i =>
  cases rx;cases y with
  | non=>cases ry;exact PySem.EqNone.ne_bool_none (qaL I q (by simp))
  | bl j=>cases ry;exact ne_bool (qaL I q (congrArg not qpv))
  | str j=>obtain⟨t',rfl⟩:=ry;exact PySem.EqMixed.ne_bool_str (qaL I q (by simp))
  | _=>exact absurd (show false=true from hs) yet
 | int i =>
  obtain⟨t,rfl⟩:=rx;cases y with
  | non=>cases ry;exact PySem.EqNone.ne_int_none (qaL I q (by simp))
  | int j=>obtain⟨t',rfl⟩:=ry;exact ne_int (qaL I q (congrArg not qmd))
  | str j=>obtain⟨t',rfl⟩:=ry;exact PySem.EqMixed.ne_int_str (qaL I q (by simp))
  | _=>exact absurd (show false=true from hs) yet
 | str i =>
  obtain⟨t,rfl⟩:=rx;cases y with
  | non=>cases ry;exact PySem.EqNone.ne_str_none (qaL I q (by simp))
  | bl j=>cases ry;exact PySem.EqMixed.ne_str_bool (qaL I q (by simp))
  | int j=>obtain⟨t',rfl⟩:=ry;exact PySem.EqMixed.ne_str_int (qaL I q (by simp))
  | str j=>obtain⟨t',rfl⟩:=ry;exact ne_str (qaL I q (congrArg not qlq))
  | _=>exact absurd (show false=true from hs) yet
 | byt i =>
  obtain⟨t,rfl⟩:=rx;cases y with
  | byt j=>obtain⟨t',rfl⟩:=ry;exact PySem.W.ne_bytes (qaL I q (congrArg not qlV))
  | _=>exact absurd (show false=true from hs) yet
 | _=>cases y<;>exact absurd (show false=true from hs) yet
theorem qoA:OpR X (compareOp .Lt) (rI0 λi j => .bl (decide (i<j))):=qts λ_ _ _ _ _ _ _ q=>lt_int q
theorem qkm:OpR X (compareOp .LtE) (rI0 λi j => .bl (decide (i<=j))):=qts λ_ _ _ _ _ _ _ q=>le_int q
theorem qn8:OpR X (compareOp .Gt) (rI0 λi j => .bl (decide (j<i))):=qts λ_ _ _ _ _ _ _ q=>gt_int q
theorem qnR:OpR X (compareOp .GtE) (rI0 λi j => .bl (decide (j<=i))):=qts λ_ _ _ _ _ _ _ q=>ge_int q
theorem qao (b:Expr){op:CmpOp}(h:op ≠ .In:=by decide)(h2:op ≠ .NotIn:=by decide):behindInMarks op b=false:=by
 have e1:(op==CmpOp.In)=false:=by cases op<;>first | rfl | exact absurd rfl h
 have e2:(op==CmpOp.NotIn)=false:=by cases op<;>first | rfl | exact absurd rfl h2
 cases b<;>simp[behindInMarks,e1,e2]
theorem qec {op:CmpOp}{r:R2}(ho:OpR X (compareOp op) r)(ha:PE X a ta)(hb:PE X b tb)(hm:behindInMarks op b=false):PE X (.Compare a [op] [b] pos) (tOp r ta tb):=by
 intro pins s σ H Q I h;exact wpAny_Compare1 (qtx ha hb I h λv u s2 x y H2 I2 rx ry q=>ho pins s2 σ H2 x y v u Q I2 rx ry q) hm
def qrF (t:TE):TT:=λσ H Q=>t σ H λx H'=>∃k,x = .bl k/\Q k H'
theorem qai {op:CmpOp}{r:R2}(ho:OpR X (compareOp op) r)(ha:PE X a ta)(hb:PE X b tb)(hm:behindInMarks op b=false):PT X (.Compare a [op] [b] pos) (qrF (tOp r ta tb)):=by
 intro pins s σ H Q I h
 refine wpAny_isTrue_Compare1 (thn (ha pins s σ H _ I h) λv s1 ⟨x,H1,I1,r1,q1⟩=>thn (hb pins s1 σ H1 _ I1 q1) λu s2 ⟨y,H2,I2,r2,q2⟩ =>
  thn (ho pins s2 σ H2 x y v u _ I2 r1 r2 q2) λc s3 ⟨z,H3,I3,r3,k,e,q3⟩=>?_) hm
 subst e;cases r3;exact wpAny_truthy_bool ⟨H3,I3,q3⟩
def qpw (r r':R2)(ta tb tc:TE):TE:=λσ H Q=>ta σ H λx H1=>tb σ H1 λy H2=>r x y H2 λz H3=>∃k,z = .bl k /\
 (if k=true then tc σ H3 λw' H4=>r' y w' H4 Q else Q (.bl false) H3)
theorem qhl {op op':CmpOp}{r r':R2}(ho:OpR X (compareOp op) r)(ho':OpR X (compareOp op') r')(ha:PE X a ta)(hb:PE X b tb)(hc:PE X c tc)
 (hm:lastMarks [op,op'] [b,c]=false:=by with_unfolding_all rfl):PE X (.Compare a [op,op'] [b,c] pos) (qpw r r' ta tb tc):=by
 intro pins s σ H Q I h
 refine Compare_chain (thn (ha pins s σ H _ I h) λv s1 ⟨x,H1,I1,r1,q1⟩=>chain_link (thn (hb pins s1 σ H1 _ I1 q1) λu s2 ⟨y,H2,I2,r2,q2⟩ =>
  thn (ho pins s2 σ H2 x y v u _ I2 r1 r2 q2) λd s3 ⟨z,H3,I3,r3,k,e,q3⟩=>?_)) hm
 subst e;cases r3;refine wpAny_truthy_bool ?_;cases k with
 | false=>exact ite_ff ⟨.bl false,H3,I3,rfl,q3⟩
 | true=>exact ite_tt (chain_last (thn (hc pins s3 σ H3 _ I3 q3) λw' s4 ⟨z',H4,I4,r4,q4⟩=>ho' pins s4 σ H4 y z' u w' Q I4 r2 r4 q4))
theorem qgl:(sizeLine:Nat)<2^63:=by rw[sizeLine_eq];decide
theorem qbG:OpR X (binaryOp .Add) (λx y H Q=>∃i j,x = .str i/\y = .str j/\i.length+j.length<=sizeLine/\Q (.str (i++j)) H):=by
 intro pins s σ H x y v u Q I rx ry h;obtain⟨i,j,rfl,rfl,hz,q⟩:=h;obtain⟨t,rfl⟩:=rx;obtain⟨t',rfl⟩:=ry;exact add_str (λt' tk=>⟨.str (i++j),H,I.tok _,⟨_,rfl⟩,q⟩) hz
def qny (b:Expr):Prop:=∀o i,subscripted b false o i=operate [o,i] (getItem o i)
theorem qct (ha:PE X a ta)(hb:PE X b tb)(hs:qny b) :
 PE X (.Subscript a b pos) (tOp (λx y H Q=>∃z i c,x = .str z/\y = .int i/\0<=i/\i<2^63/\i<z.length/\z.cps[i.toNat]?=some c/\Q (.str ⟨#[c]⟩) H) ta tb):=by
 intro pins s σ H Q I h;refine Subscript_ (qtx ha hb I h λv u s2 x y H2 I2 rx ry q=>?_);obtain⟨z,i,c,rfl,rfl,h0,h63,h1,hc,q⟩:=q;obtain⟨t,rfl⟩:=rx;obtain⟨t',rfl⟩:=ry;have e:seqIndex? i z.length=some i.toNat:=PySem.StrLaws.seqIndex_nonneg h0 h1
 exact tail_any (typeIs_str s2 z t) slot_str_getitem.lookup (getItem_str (c:=c) (by
  have e1:decide (i < -(2^63:Int))=false:=decide_eq_false (by omega);have e2:decide (i≥2^63)=false:=decide_eq_false (by omega);rw[e1,e2]<;>rfl) (by rw[e];exact hc) ⟨.str ⟨#[c]⟩,H2,I2.tok _,⟨_,rfl⟩,q⟩) (hs _ _)
theorem qcz {x:V}{us:List Value}(r:qaN [x] us):∃u,us=[u]/\qbc x u:=by
 cases r with
 | cons r1 r2=>cases r2;exact⟨_,rfl,r1⟩
theorem qod {x y:V}{us:List Value}(r:qaN [x,y] us):∃u w',us=[u,w']/\qbc x u/\qbc y w':=by
 cases r with
 | cons r1 r2 =>
  cases r2 with
  | cons r3 r4=>cases r4;exact⟨_,_,rfl,r1,r3⟩
theorem qhN:qcl X (.type "str") (λxs H Q=>∃i,xs=[.int i]/\i.natAbs.log2<1920/\Q (.str (toString i)) H):=by
 intro pins s σ H xs us Q I r h;obtain⟨i,rfl,hz,q⟩:=h;obtain⟨u,rfl,t,rfl⟩:=qcz r;exact PySem.P.str_of_int hz ⟨.str _,H,I.tok _,⟨_,rfl⟩,q⟩
end
end L2
namespace L2
open PySem PySem.Spec PyProof.Rows
structure qpL (h:Heap)(x dx C:Addr)(mA:Str->Option Value):Prop where
 obj:h.get? x=some (PySem.W.instObj C dx)
 ns:h.Ns1 dx mA
 ne:dx≠x
theorem qlQ {h:Heap}{dx:Addr}{mA:Str->Option Value}(n:h.Ns1 dx mA):∃od,h.get? dx=some od/\∀name,PySem.W.lookIn name od=some (mA name):=by
 obtain⟨o,es,ep,ho,hd,hk,_,hm⟩:=n;refine⟨o,ho,λname=>?_⟩;have e:=hm name;unfold nsFind findBy at e;rw[<-Array.find?_toList] at e;unfold PySem.W.lookIn;rw[hd];dsimp only;split
 .rename_i y q
  rw[q] at e;exact congrArg some e
 .rename_i q
  rw[q] at e
  have a:es.toList.any (·.refKey)=false:=by
   rw[ybb];intro y hy;obtain⟨z,t,hkey⟩:=hk y (yey.mp hy);simp[DictEntry.refKey,hkey]
  have a':¬es.toList.any (·.refKey)=true:=by rw[a];exact yet
  rw[if_neg a'];exact congrArg some e
theorem qpL.look {h:Heap}{x dx C:Addr}{mA:Str->Option Value}(I:qpL h x dx C mA):∃od,PySem.W.InstAt h x (PySem.W.instObj C dx) C (some od)/\∀name,PySem.W.lookIn name od=some (mA name) :=
 let ⟨od,ho,hl⟩:=qlQ I.ns
 ⟨od,⟨I.obj,rfl,rfl,ho⟩,hl⟩
section
variable {prog:Program}{w:World}{A:Around}{E:Value->Shared->Prop}{s:Shared}{K:PySem.W.Frag}{x dx C f:Addr}{mA:Str->Option Value}{name:Str}{v:Value}
theorem qqt {expr:Bool}{Q:Value->Shared->Prop}(X:K.In s.heap)(I:qpL s.heap x dx C mA)(hg:PySem.W.plainGet K C name=true)(hh:PySem.W.hasDictIn K C=true)
 (ha:PySem.W.findIn K (.ref C) name=some none)(hv:mA name=some v)(hv':PySem.W.handedIn v=true)(h:Q v { s with toks:=s.toks+1 }) :
 wpAny (model prog w) A (getAttr (.ref x) name expr) Q E s:=by
 obtain⟨od,J,hl⟩:=I.look;exact PySem.W.get_value X J (PySem.W.plainGet_of hg).1 (PySem.W.findObj_own hh ha rfl (by rw[hl,hv])) hv' h
theorem qnS {pl:Sem Bool}{Q:Value×List Value->Shared->Prop}(X:K.In s.heap)(I:qpL s.heap x dx C mA)(hg:PySem.W.plainGet K C name=true)
 (hf:PySem.W.findIn K (.ref C) name=some (some (.ref f)))(ht:PySem.W.isFn K (.ref f)=true)(hv:mA name=none)(h:Q (.ref f,[.ref x]) s) :
 wpAny (model prog w) A (getMethod (.ref x) name pl) Q E s:=by
 obtain⟨od,J,hl⟩:=I.look;exact PySem.W.method_fn X J (PySem.W.plainGet_of hg).1 (PySem.W.plainGet_of hg).2 hf (beq_iff_eq.mp ht) (by show(PySem.W.lookIn name od).map (·.isSome)=some false;rw[hl,hv];rfl) h
theorem qqv {ns:List Str}{Q:Unit->Shared->Prop}(X:K.In s.heap)(I:qpL s.heap x dx C mA)
 (hs:PySem.W.findIn K (.ref C) "__setattr__" = some (some (.builtin "object.__setattr__")))(hp:PySem.W.plainOver K C=true)(ht:PySem.W.takerIn K C name=some none)(hh:PySem.W.hasDictIn K C=true)
 (hw:PySem.Within mA ns)(hsz:ns.length<=sizeLine)
 (h:∀h',qpL h' x dx C (λy=>if y=name then some v else mA y)->Heap.SameBut dx s.heap h'->Q () { s with heap:=h',toks:=s.toks+2 }) :
 wpAny (model prog w) A (setAttr (.ref x) name v) Q E s:=by
 obtain⟨od,J,hl⟩:=I.look;refine PySem.W.set_plain X J hs (PySem.W.osa_open (s:={ s with toks:=s.toks+1 }) (r:=none) X J hp ht λb=>?_);obtain⟨cd,hc,hd'⟩:=PySem.W.any_some hh;have hx:s.heap.get? x=some ⟨.ref C,some dx,.plain,#[]⟩:=I.obj;refine wpAny_bind (wpAny_pure (wpAny_bind (wpAny_bind (wpAny_loadPart hx (wpAny_bind (PySem.W.Looks.here (s:={ s with toks:=s.toks+1 }) (PySem.W.looks_clsIn X hc) ?_))))));rw[hd'];refine wpAny_pure (a:=some dx) (wpAny_bind (wpAny_pure (wpAny_bind ?_)));refine wpAny_nsSet1 (s:={ s with toks:=s.toks+1 }) I.ns λh' hn2 hs2=>?_;obtain⟨oD,esD,epD,hoD,hdD,hcD⟩:=hn2.count (PySem.Within.cons name v hw);refine wpAny_bind (wpAny_lookBehind hoD (by rw[hdD];exact pastItsLine_dict (ybn hcD (by rw[ycb];omega))) ?_);exact wpAny_pure (h _ ⟨(hs2.2 _ (Ne.symm I.ne)).trans I.obj,hn2,I.ne⟩ hs2)
theorem qob {R:Result->Shared->Prop}{vs:List Value}{kw:List (Str×Value)}(X:K.In s.heap)(hm:PySem.W.makesIn K C=true)
 (hi:PySem.W.findIn K (.ref C) "__init__" = some (some (.ref f)))(hf:PySem.W.typeIn K (.ref f)=some (.type "function"))
 (h:codeAny (model prog w) (A.under (.builtin "type.__call__" ⟨.ref C::vs,kw⟩)) (.call (.ref f) ⟨.ref (s.heap.objs.size+1)::vs,kw⟩) (PySem.W.InitBack (s.heap.objs.size+1) R)
  { s with heap:=(s.heap.push PySem.W.emptyDict).push (PySem.W.instObj C s.heap.objs.size) }) :
 codeAny (model prog w) A (.call (.ref C) ⟨vs,kw⟩) R s:=by
 obtain⟨hh,g,d,t,os⟩:=s;exact PySem.W.make_core (PySem.W.makes_of X hm) (PySem.W.looks_findIn X hi) (λself=>PySem.W.bind_fn X self hf) (.inl rfl) h
end
def qhb (f:Str)(v:V):List (Str×V)->List (Str×V)
 | []=>[(f,v)]
 | (g,x)::r=>if g=f then (g,v)::r else (g,x)::qhb f v r
theorem qfB (f g:Str)(v:V):∀fs:List (Str×V),(qhb f v fs).lookup g=if g=f then some v else fs.lookup g
 | []=>by
  show List.lookup g [(f,v)]=_;by_cases h:g=f
  .have hb:(g==f)=true:=beq_iff_eq.mpr h
   simp only[List.lookup,hb,if_pos h]
  .have hb:(g==f)=false:=beq_eq_false_iff_ne.mpr h
   simp only[List.lookup,hb,if_neg h]
 | (k,x)::r=>by
  have ih:=qfB f g v r;rw[show qhb f v ((k,x)::r)=(if k=f then (k,v)::r else (k,x)::qhb f v r) from rfl];by_cases hk:k=f
  .rw[if_pos hk]
   by_cases h:g=k
   .have hb:(g==k)=true:=beq_iff_eq.mpr h
    simp only[List.lookup,hb,if_pos (h.trans hk)]
   .have hb:(g==k)=false:=beq_eq_false_iff_ne.mpr h
    simp only[List.lookup,hb,if_neg (λe:g=f=>h (e.trans hk.symm))]
  .rw[if_neg hk]
   by_cases h:g=k
   .have hb:(g==k)=true:=beq_iff_eq.mpr h
    simp only[List.lookup,hb,if_neg (λe:g=f=>hk (h.symm.trans e))]
   .have hb:(g==k)=false:=beq_eq_false_iff_ne.mpr h
    simp only[List.lookup,hb];exact ih
theorem qfF (f:Str)(v:V):∀fs:List (Str×V),f∈(qhb f v fs).map (·.1)/\∀g,g∈fs.map (·.1)->g∈(qhb f v fs).map (·.1)
 | []=>⟨by simp[qhb],λg h=>by simp at h⟩
 | (k,x)::r=>by
  obtain⟨i1,i2⟩:=qfF f v r;rw[show qhb f v ((k,x)::r)=(if k=f then (k,v)::r else (k,x)::qhb f v r) from rfl];by_cases hk:k=f
  .rw[if_pos hk]
   subst hk;exact⟨by simp,λg h=>by simpa using h⟩
  .rw[if_neg hk]
   refine⟨?_,λg h=>?_⟩
   .rw[ycg]
    exact ybg _ i1
   .rw[ycg] at h⊢
    rcases ybf.mp h with e | e
    .exact ybf.mpr (.inl e)
    .exact ybg _ (i2 g e)
theorem qfm (f:Str)(v:V):∀fs:List (Str×V),(qhb f v fs).length<=fs.length+1
 | []=>by simp[qhb]
 | (k,x)::r=>by
  have ih:=qfm f v r;rw[show qhb f v ((k,x)::r)=(if k=f then (k,v)::r else (k,x)::qhb f v r) from rfl];by_cases hk:k=f
  .rw[if_pos hk,ycb,ycb];omega
  .rw[if_neg hk,ycb,ycb];omega
theorem qir.some_of {v:V}{o:Option Value}(r:qir (some v) o):∃u,o=some u/\qbc v u:=by
 cases o with
 | none=>exact(show False from r).elim
 | some u=>exact⟨u,rfl,r⟩
theorem qir.none_of {o:Option Value}(r:qir none o):o=none:=by
 cases o with
 | none=>rfl
 | some u=>exact(show False from r).elim
theorem qlg {v:V}{u:Value}(r:qbc v u):PySem.W.handedIn u=true:=by
 cases v with
 | non=>cases(show u=Value.none from r);rfl
 | bl b=>cases(show u=Value.bool b from r);rfl
 | int i=>obtain⟨t,e⟩:=(show ∃t,u=Value.int i t from r);cases e;rfl
 | str x=>obtain⟨t,e⟩:=(show ∃t,u=Value.str x t from r);cases e;rfl
 | byt b=>obtain⟨t,e⟩:=(show ∃t,u=Value.bytes b t from r);cases e;rfl
 | flt b=>obtain⟨t,e⟩:=(show ∃t,u=Value.float b t from r);cases e;rfl
 | ref a=>cases(show u=Value.ref a from r);rfl
 | ty n=>cases(show u=Value.type n from r);rfl
section
variable {P:Program}{w:World}{H H':Hp}{h h':Heap}{a C dx:Addr}{fs fs':List (Str×V)}
theorem qgy (hok:HOk P w H h)(e:H a=some (.ins C dx fs)):∃mA,qpL h a dx C mA/\(∀f,qir (fs.lookup f) (mA f))/\PySem.Within mA (fs.map (·.1))/\fs.length<=1000/\H dx=some (.own a):=by
 obtain⟨d,z,ne,ob,mA,n,r,q⟩:=(show qbu P w H h a (.ins C dx fs) from hok a _ e);exact⟨mA,⟨ob,n,ne⟩,r,q,z,d⟩
end
structure Cls (K:PySem.W.Frag)(C:Addr):Prop where
 pg:PySem.W.plainGet K C Str.empty=true
 hd:PySem.W.hasDictIn K C=true
 po:PySem.W.plainOver K C=true
 sa:PySem.W.findIn K (.ref C) "__setattr__" = some (some (.builtin "object.__setattr__"))
theorem Cls.get {K:PySem.W.Frag}{C:Addr}(c:Cls K C)(f:Str):PySem.W.plainGet K C f=true:=c.pg
def qdP (K:PySem.W.Frag)(C:Addr)(f:Str):Prop:=PySem.W.findIn K (.ref C) f=some none
theorem qdP.taker {K:PySem.W.Frag}{C:Addr}{f:Str}(n:qdP K C f):PySem.W.takerIn K C f=some none:=by
 unfold PySem.W.takerIn;rw[show PySem.W.findIn K (.ref C) f=some none from n];rfl
structure Con (K:PySem.W.Frag)(C:Addr)(f:Str)(v:V)(u:Value):Prop where
 at_:PySem.W.findIn K (.ref C) f=some (some u)
 rel:qbc v u
 get:PySem.W.specialIn K u "__get__" = some none
 cp:PySem.W.copiedNames.contains f=false
structure qsz (K:PySem.W.Frag)(C:Addr)(m:Str)(f:Addr):Prop where
 at_:PySem.W.findIn K (.ref C) m=some (some (.ref f))
 fn:PySem.W.isFn K (.ref f)=true
 kp:PySem.W.keepIn K (.ref f)=true
section
variable {X:Cx}{pins:List (Addr×Obj)}{σ:St}{H:Hp}{s:Shared}{a C dx:Addr}{fs:List (Str×V)}{f:Str}{v:V}{A:Around}{E:Value->Shared->Prop}
theorem qkE {b:Bool}{Q:Value->Shared->Prop}(I:Inv X pins σ H s)(e:H a=some (.ins C dx fs))(c:Cls X.K C)(n:qdP X.K C f)(l:fs.lookup f=some v)
 (h:∀u s',Inv X pins σ H s'->qbc v u->Q u s'):wpAny (model X.prog X.w) A (getAttr (.ref a) f b) Q E s:=by
 obtain⟨mA,O,r,_,_,_⟩:=qgy I.hok e;obtain⟨u,hu,ru⟩:=qir.some_of (v:=v) (o:=mA f) (by rw[<-l];exact r f);exact qqt I.kIn O (c.get f) c.hd n hu (qlg ru) (h u _ (I.tok _) ru)
theorem qgf {m:Str}{g:Addr}{pl:Sem Bool}{Q:Value×List Value->Shared->Prop}(I:Inv X pins σ H s)(e:H a=some (.ins C dx fs))(c:Cls X.K C)(k:qsz X.K C m g)(l:fs.lookup m=none)
 (h:Q (.ref g,[.ref a]) s):wpAny (model X.prog X.w) A (getMethod (.ref a) m pl) Q E s:=by
 obtain⟨mA,O,r,_,_,_⟩:=qgy I.hok e;have hn:mA m=none:=qir.none_of (by rw[<-l];exact r m);exact qnS I.kIn O (c.get m) k.at_ k.fn hn h
theorem qkb {y:V}{u:Value}{Q:Unit->Shared->Prop}(I:Inv X pins σ H s)(e:H a=some (.ins C dx fs))(c:Cls X.K C)(n:qdP X.K C f)(hl:fs.length<1000)(ry:qbc y u)
 (h:∀s',Inv X pins σ (upd H a (.ins C dx (qhb f y fs))) s'->Q () s'):wpAny (model X.prog X.w) A (setAttr (.ref a) f u) Q E s:=by
 obtain⟨mA,O,r,wi,_,ho⟩:=qgy I.hok e;have hz:(fs.map (·.1)).length<=sizeLine:=by rw[ycd,sizeLine_eq];omega
 refine qqv I.kIn O c.sa c.po n.taker c.hd wi hz λh' O' sb=>h _ ?_;have hd:∃o,h'.get? dx=some o:=let ⟨o,_,_,e',_⟩:=O'.ns;⟨o,e'⟩;refine I.write (x:=a) (e:=dx) (by rw[e];exact True.intro) (.inr ho) (λb q hb z=>(sb.2 b hb).trans z) hd ?_;refine⟨by rw[qay O.ne];exact ho,?_,O.ne,O'.obj,_,O'.ns,λg=>?_,λg hg=>?_⟩
 .have:=qfm f y fs;omega
 .show qir ((qhb f y fs).lookup g) (if g=f then some u else mA g)
  rw[qfB];by_cases q:g=f
  .rw[if_pos q,if_pos q];exact ry
  .rw[if_neg q,if_neg q];exact r g
 .by_cases q:g=f
  .rw[q];exact(qfF f y fs).1
  .refine(qfF f y fs).2 g (wi g λz=>hg ?_)
   show(if g=f then some u else mA g)=none;rw[if_neg q];exact z
theorem Inv.made (I:Inv X pins σ H s):Inv X pins σ (upd (upd H s.heap.objs.size (.own (s.heap.objs.size+1))) (s.heap.objs.size+1) (.ins C s.heap.objs.size []))
 { s with heap:=(s.heap.push PySem.W.emptyDict).push (PySem.W.instObj C s.heap.objs.size) }:=by
 have e1:(s.heap.push PySem.W.emptyDict).get? s.heap.objs.size=some PySem.W.emptyDict:=ydt s.heap rfl
 have e2:((s.heap.push PySem.W.emptyDict).push (PySem.W.instObj C s.heap.objs.size)).get? (s.heap.objs.size+1)=some (PySem.W.instObj C s.heap.objs.size):=by
  have:=ydt (s.heap.push PySem.W.emptyDict) (o:=PySem.W.instObj C s.heap.objs.size) rfl
  rwa [ydw] at this
 have e3:(s.heap.push PySem.W.emptyDict).Ns s.heap.objs.size (λ_=>none):=⟨PySem.W.emptyDict,#[],_,e1,rfl,(λe he=>absurd he (by simp)),λ_=>rfl⟩;have I1:=I.laid (a:=s.heap.objs.size) (o := .own (s.heap.objs.size+1)) (h':=s.heap.push PySem.W.emptyDict) (t':=s.toks) (λb u q=>ydu _ q) (yaz _) ⟨_,e1⟩;refine I1.laid (a:=s.heap.objs.size+1) (o := .ins C s.heap.objs.size []) (t':=s.toks) (λb u q=>ydu _ q) (yeh (ydw _ _)) ?_;have ne:s.heap.objs.size≠s.heap.objs.size+1:=ydx (ycy _);refine⟨by rw[qay ne,qag],ybz _,ne,e2,λ_=>none,(Heap.Ns1.of_empty e3).at λo q=>ydu _ q,λ_=>True.intro,λy hy=>absurd rfl hy⟩
theorem qqJ {prog:Program}{w:World}{env:Env}{e:Expr}{f:Str}{pos:Pos}{s:Shared}{Q:Value->Shared->Prop}(hb:attributeBase e f env (eval e env)=eval e env)
 (h:wpAny (model prog w) A (eval e env) (λo s₁=>wpAny (model prog w) A (getAttr o f true) Q E s₁) E s):wpAny (model prog w) A (eval (.Attribute e f pos) env) Q E s :=
 Attribute_any_ h (by rw[arm_eval_Attribute,hb])
end
def quB (K:PySem.W.Frag)(ta:TE)(f:Str):TE:=λσ H Q=>ta σ H λx H1=>∃a C dx fs v,x = .ref a/\H1 a=some (.ins C dx fs)/\Cls K C/\qdP K C f/\fs.lookup f=some v/\Q v H1
def quc (K:PySem.W.Frag)(ta tv:TE)(f:Str):TS:=λD σ H=>tv σ H λy H1=>ta σ H1 λx H2=>∃a C dx fs,x = .ref a/\H2 a=some (.ins C dx fs)/\Cls K C/\qdP K C f/\fs.length<1000 /\
 D.nx σ (upd H2 a (.ins C dx (qhb f y fs)))
section
variable {X:Cx}{o e value:Expr}{f:Str}{pos pos' tpos:Pos}{ta tv:TE}
theorem qdh (he:PE X e ta)(hb:attributeBase e f X.env (eval e X.env)=eval e X.env):PE X (.Attribute e f pos) (quB X.K ta f):=by
 intro pins s σ H Q I h;refine qqJ hb (thn (he pins s σ H _ I h) λu s1 ⟨x,H1,I1,rx,a,C,dx,fs,v,ex,ea,c,n,l,q⟩=>?_);subst ex;obtain rfl:u=Value.ref a:=rx;exact qkE I1 ea c n l λu' s2 I2 ru=>⟨v,H1,I2,ru,q⟩
theorem qoT (ha:PE X o ta)(hv:PE X value tv)(hs:swapsWith value (some (.Attribute o f pos')) pos.line X.env=pure false):PS X (.Assign [.Attribute o f pos'] value pos) (quc X.K ta tv f):=by
 intro pins s σ H D I h;refine plainObj_wpAny_Assign_Attribute (thn (hv pins s σ H _ I h) λu s1 ⟨y,H1,I1,ry,q⟩=>thn (ha pins s1 σ H1 _ I1 q) λov s2 ⟨x,H2,I2,rx,a,C,dx,fs,ex,ea,c,n,l,q2⟩=>?_) hs;subst ex;obtain rfl:ov=Value.ref a:=rx;exact qkb I2 ea c n l ry λs3 I3=>⟨σ,_,I3,q2⟩
theorem qrc {pl:Sem Bool}{m:Str}{apos:Pos}{args:List Expr}{pins:List (Addr×Obj)}{s:Shared}{σ:St}{H:Hp}{Q:Value->Shared->Prop}{te:TE}(he:PE X e te)(I:Inv X pins σ H s)
 (h:te σ H λx H1=>∃a C dx fs g,x = .ref a/\H1 a=some (.ins C dx fs)/\Cls X.K C/\qsz X.K C m g/\fs.lookup m=none /\
  ∀s1,Inv X pins σ H1 s1->wpAny (model X.prog X.w) X.A (callWith pos (.ref g) [.ref a] (backTo pos (starEach args X.env)) (backToKw pos (keywordEach [] X.env))) Q X.xe s1)
 (ht:eval (.Call (.Attribute e m apos) args [] pos) X.env=(do
  let ov <-eval e X.env
  standAt apos.atName
  let (f,first) <-holding [ov] (getMethod ov m pl)
  callWith pos f first (backTo pos (starEach args X.env)) (backToKw pos (keywordEach [] X.env)))) :
 wpAny (model X.prog X.w) X.A (eval (.Call (.Attribute e m apos) args [] pos) X.env) Q X.xe s:=by
 refine PySem.W.methodCall_KW (pl:=pl) (thn (he pins s σ H _ I h) λu s1 ⟨x,H1,I1,rx,a,C,dx,fs,g,ex,ea,c,k,l,q⟩=>?_) ht;subst ex;obtain rfl:u=Value.ref a:=rx;exact qgf I1 ea c k l (q s1 I1)
end
section
variable {X:Cx}{pins:List (Addr×Obj)}{σ:St}{H:Hp}{s:Shared}{A:Around}{E:Value->Shared->Prop}{Q:Value->Shared->Prop}{c:Value}{b:Bool}
inductive qkq (K:PySem.W.Frag)(H:Hp):V->Value->Prop where
 | non:qkq K H .non (.type "NoneType")
 | bl (x:Bool):qkq K H (.bl x) (.type "bool")
 | int (i:Int):qkq K H (.int i) (.type "int")
 | str (x:Str):qkq K H (.str x) (.type "str")
 | flt (x:UInt64):qkq K H (.flt x) (.type "float")
 | lst {a:Addr}{xs:List V}(e:H a=some (.lst xs)):qkq K H (.ref a) (.type "list")
 | frz {a:Addr}{o:Obj}{xs:List V}(e:H a=some (.frz o (.lst xs))):qkq K H (.ref a) (.type "list")
 | tup {a:Addr}{xs:List V}(e:H a=some (.tup xs)):qkq K H (.ref a) (.type "tuple")
 | dK {a:Addr}{kvs:List (Key×V)}(e:H a=some (.dK kvs)):qkq K H (.ref a) (.type "dict")
 | dT {a:Addr}{kvs:List (List Key×V)}(e:H a=some (.dT kvs)):qkq K H (.ref a) (.type "dict")
 | ins {a C dx:Addr}{fs:List (Str×V)}(e:H a=some (.ins C dx fs)) (cl:Cls K C) (ha:PySem.W.findIn K (.ref C) "__class__" = some (some (.builtin "object.__class__")))
  (hn:PySem.W.specialIn K (.builtin "object.__class__") "__get__" = some (some (.builtin "getset_descriptor.__get__")))(htk:PySem.W.takesIn K (.builtin "object.__class__")=some true)
  (hm:PySem.W.mroIn K C (.type "object")=some true):qkq K H (.ref a) (.ref C)
theorem qly {x:V}{u t:Value}(I:Inv X pins σ H s)(rx:qbc x u)(ty:qkq X.K H x t)(e:PySem.W.kitOne X.K t c=some b)(h:∀tk,Q (.bool b) { s with toks:=tk }) :
 wpAny (model X.prog X.w) A (call (.builtin "isinstance") [u,c]) Q E s:=by
 cases ty with
 | non=>cases(show u=Value.none from rx);exact PySem.W.kia_one PySem.W.kitx_none I.kIn True.intro e (λz=>nomatch z) h
 | bl y=>cases(show u=Value.bool y from rx);exact PySem.W.kia_one PySem.W.kitx_bool I.kIn True.intro e (λz=>nomatch z) h
 | int i=>obtain⟨t,q⟩:=(show ∃t,u=Value.int i t from rx);cases q;exact PySem.W.kia_one PySem.W.kitx_int I.kIn True.intro e (λz=>nomatch z) h
 | str y=>obtain⟨t,q⟩:=(show ∃t,u=Value.str y t from rx);cases q;exact PySem.W.kia_one PySem.W.kitx_str I.kIn True.intro e (λz=>nomatch z) h
 | flt y=>obtain⟨t,q⟩:=(show ∃t,u=Value.float y t from rx);cases q;exact PySem.W.kia_one PySem.W.kitx_float I.kIn True.intro e (λz=>nomatch z) h
 | @lst a xs ea =>
  cases(show u=Value.ref a from rx);obtain⟨_,_,n,_,h1⟩:=(show qbu X.prog X.w H s.heap a (.lst xs) from I.hok a _ ea);exact PySem.W.kia_one PySem.W.kitx_list I.kIn ⟨_,h1,rfl⟩ e (λz=>nomatch z) h
 | @frz a ob xs ea =>
  cases(show u=Value.ref a from rx);obtain⟨_,_,_,n,_,h1⟩:=(show qbu X.prog X.w H s.heap a (.frz ob (.lst xs)) from I.hok a _ ea);exact PySem.W.kia_one PySem.W.kitx_list I.kIn ⟨_,h1,rfl⟩ e (λz=>nomatch z) h
 | @tup a xs ea =>
  cases(show u=Value.ref a from rx);obtain⟨_,_,_,p⟩:=(show qbu X.prog X.w H s.heap a (.tup xs) from I.hok a _ ea);obtain⟨o,h1,h2,_⟩:=p;exact PySem.W.kia_one PySem.W.kitx_tuple I.kIn ⟨o,h1,h2⟩ e (λz=>nomatch z) h
 | @dK a kvs ea =>
  cases(show u=Value.ref a from rx);obtain⟨_,_,vs,_,p⟩:=(show qbu X.prog X.w H s.heap a (.dK kvs) from I.hok a _ ea);obtain⟨o,es,ep,h1,h2,_⟩:=p;exact PySem.W.kia_one PySem.W.kitx_dict I.kIn ⟨o,h1,h2.1⟩ e (λz=>nomatch z) h
 | @dT a kvs ea =>
  cases(show u=Value.ref a from rx);obtain⟨_,_,xs,_,o,es,ep,h1,h2,_⟩:=(show qbu X.prog X.w H s.heap a (.dT kvs) from I.hok a _ ea);exact PySem.W.kia_one PySem.W.kitx_dict I.kIn ⟨o,h1,h2.1⟩ e (λz=>nomatch z) h
 | @ins a C dx fs ea cl ha hn htk hm =>
  cases(show u=Value.ref a from rx);obtain⟨mA,O,_⟩:=qgy I.hok ea;obtain⟨od,J,_⟩:=O.look;exact PySem.W.kia_one (PySem.W.kitx_own (cl.get _) cl.hd ha hn htk hm) I.kIn J e (λz=>nomatch z) h
end
end L2
namespace L2
open PySem PySem.Spec PyProof.Rows
structure qdE (k:Nat)(A:Around):Prop where
 hd:A.handled=none
 dp:A.depth+3*k+5<recursionLimit
 un:A.units+16*k+200<cLine
theorem qdE.mono {j k:Nat}{A:Around}(r:qdE k A)(h:j<=k):qdE j A:=⟨r.hd,by have:=r.dp;omega,by have:=r.un;omega⟩
theorem qdE.deeper {k:Nat}{A:Around}(r:qdE (k+1) A)(env:Env):qdE k (A.deeper env) :=
 ⟨r.hd,by have:=r.dp;show A.depth+1+3*k+5<_;omega,by have:=r.un;show A.units+3+16*k+200<_;omega⟩
theorem qki {A:Around}{C:Addr}{us:List Value}{kw:List (Str×Value)}:(A.under (.builtin "type.__call__" ⟨.ref C::us,kw⟩)).depth=A.depth+1:=by
 first | rfl | simp[Around.under,Code.weight,Code.isCreation,Code.isGuard,Code.isCaller,Code.frames,Code.isFrame,guardIds]
theorem qkg {A:Around}{C:Addr}{us:List Value}{kw:List (Str×Value)}:(A.under (.builtin "type.__call__" ⟨.ref C::us,kw⟩)).units=A.units+1:=by
 first | rfl | simp[Around.under,Code.cUnits,Code.frames,Code.isFrame]
theorem qdE.make {k:Nat}{A:Around}(r:qdE (k+1) A)(C:Addr)(us:List Value)(kw:List (Str×Value)):qdE k (A.under (.builtin "type.__call__" ⟨.ref C::us,kw⟩)) :=
 ⟨r.hd,by have:=r.dp;rw[qki];omega,by have:=r.un;rw[qkg];omega⟩
theorem qdE.depth {k:Nat}{A:Around}(r:qdE k A):A.depth<recursionLimit:=by have:=r.dp;omega
theorem qdE.units {k:Nat}{A:Around}(r:qdE k A):A.units+64<cLine:=by have:=r.un;omega
theorem qdE.units0 {k:Nat}{A:Around}(r:qdE k A):A.units<cLine:=by have:=r.un;omega
def qtw:TA:=λ_ H Q=>Q [] H
def qiD (ta:TE)(tr:TA):TA:=λσ H Q=>ta σ H λx H1=>tr σ H1 λxs H2=>Q (x::xs) H2
section
variable {X:Cx}{e:Expr}{es:List Expr}{te:TE}{t:TA}{pos:Pos}
theorem qac:PA X [] qtw:=λ_ _ _ _ H Q I h=>Calls.spliced_nil ⟨[],H,I,.nil,h⟩
theorem qaa (ha:PE X e te)(hr:PA X es t)(hs:starEach (e::es) X.env=(false,eval e X.env)::starEach es X.env:=by rfl):PA X (e::es) (qiD te t):=by
 intro pos pins s σ H Q I h;rw[hs];show wpAny _ _ (spliced ((false,eval e X.env)::backTo pos (starEach es X.env))) _ _ s;refine Calls.spliced_cons (thn (ha pins s σ H _ I h) λu s1 ⟨x,H1,I1,r1,q1⟩=>?_);exact thn (hr pos pins s1 σ H1 _ I1 q1) λus s2 ⟨xs,H2,I2,r2,q2⟩=>⟨x::xs,H2,I2,.cons r1 r2,q2⟩
def quE (t:TA):TE:=λσ H Q=>t σ H λxs H1=>xs.length<=sizeLine/\∀p,H1 p=none->Q (.ref p) (upd H1 p (.tup xs))
def quD (t:TA):TE:=λσ H Q=>t σ H λxs H1=>xs.length<=sizeLine/\∀p,H1 p=none->Q (.ref p) (upd H1 p (.lst xs))
theorem qb9 {x1}(h:PA X es t):PE X (.Tuple es x1 pos) (quE t):=by
 intro pins s σ H Q I hq;refine wpAny_Tuple_spliced (thn (h pos pins s σ H _ I hq) λus s1 ⟨xs,H1,I1,r,z,q⟩=>⟨by rw[<-r.length];exact z,?_⟩);have hf:H1 s1.heap.objs.size=none:=I1.hok.fresh (yaz _);refine⟨.ref s1.heap.objs.size,upd H1 s1.heap.objs.size (.tup xs),I1.laid (t':=s1.toks) (λb u e=>ydu _ e) (yaz _) ?_,rfl,q _ hf⟩;exact⟨z,us,r,⟨_,ydt _ rfl,rfl,_,rfl⟩⟩
theorem qaJ (h:PA X es t):PE X (.List es pos) (quD t):=by
 intro pins s σ H Q I hq;refine wpAny_List_spliced (thn (h pos pins s σ H _ I hq) λus s1 ⟨xs,H1,I1,r,z,q⟩=>⟨by rw[<-r.length];exact z,?_⟩);have hf:H1 s1.heap.objs.size=none:=I1.hok.fresh (yaz _);refine⟨.ref s1.heap.objs.size,upd H1 s1.heap.objs.size (.lst xs),I1.laid (t':=s1.toks) (λb u e=>ydu _ e) (yaz _) ?_,rfl,q _ hf⟩;exact⟨z,us,0,r,ydt _ rfl⟩
end
abbrev Sp:=List V->Hp->VK->XK->Prop
abbrev CXT:=List Env->Hp->Shared->XK->Value->Shared->Prop
structure qrm (P:Program)(w:World)(K:PySem.W.Frag)(mg:Str->Option Value)(base:Heap)(A:Around)(outer:List Env)(s:Shared)(H:Hp):Prop where
 frames:A.frames=some outer
 mod:Mod K mg base
 bs:∀b o,base.get? b=some o->s.heap.get? b=some o/\H b=none
 bsz:base.objs.size<=s.heap.objs.size
 funs:s.heap.FunFrames base outer
 frf:∀b∈frs outer,H b=none
 hok:HOk P w H s.heap
 bare:AllBare s.gens
def CE (outer:List Env)(P:Program)(w:World)(H:Hp)(s:Shared)(Q:VK)(u:Value)(s':Shared):Prop :=
 ∃v H',s'.os=s.os/\AllBare s'.gens/\Un (frs outer) [] H H' s.heap s'.heap/\HOk P w H' s'.heap/\qbc v u/\Q v H'
def CR (CX:CXT)(outer:List Env)(P:Program)(w:World)(H:Hp)(s:Shared)(Q:VK)(E:XK)(r:Result)(s':Shared):Prop :=
 match r with
 | .ok (.ret u)=>CE outer P w H s Q u s'
 | .ok _=>False
 | .error e=>CX outer H s E e s'
structure qaM (P:Program)(w:World)(K:PySem.W.Frag)(mg:Str->Option Value)(base:Heap)(CX:CXT)(k:Nat)(f:Addr)(fd:FuncData)(ps:List Str)(sp:Sp):Prop where
 len:∀vs H Q E,sp vs H Q E->vs.length=ps.length
 run:∀(A:Around) (outer:List Env) (s:Shared) (H:Hp) (args:Args) (us:List Value) (vs:List V) (Q:VK) (E:XK),qdE k A->qrm P w K mg base A outer s H->BindsTo s fd args (ps.zip us)->qaN vs us->sp vs H Q E ->
  codeAny (model P w) A (.call (.ref f) args) (CR CX outer P w H s Q E) s
theorem qrm.make {P:Program}{w:World}{K:PySem.W.Frag}{mg:Str->Option Value}{base:Heap}{A:Around}{outer:List Env}{s:Shared}{H:Hp}(e:qrm P w K mg base A outer s H)(C:Addr)(us:List Value)(kw:List (Str×Value)) :
 qrm P w K mg base (A.under (.builtin "type.__call__" ⟨.ref C::us,kw⟩)) outer s H:=⟨by first | exact e.frames | (simpa[Around.under,Code.envs,Code.isFrame,pushEnvs] using e.frames),e.mod,e.bs,e.bsz,e.funs,e.frf,e.hok,e.bare⟩
section
variable {X:Cx}{pins:List (Addr×Obj)}{σ:St}{H:Hp}{s s':Shared}
theorem Inv.env0 (I:Inv X pins σ H s):qrm X.prog X.w X.K X.mg X.base X.A X.stack s H :=
 ⟨I.ok.frames,I.ok.mod,I.bs,ybn I.ok.bsz I.sz,I.stack,I.stkFree,I.hok,I.bare⟩
theorem Inv.after {Q:VK}{u:Value}(I:Inv X pins σ H s)(h:CE X.stack X.prog X.w H s Q u s'):EP X pins σ Q u s':=by
 obtain⟨v,H',os,bare,un,hok,r,q⟩:=h;obtain⟨hh,g,d,t,os'⟩:=s';obtain rfl:os'=s.os:=os;exact⟨v,H',I.call (h':=hh) (g':=g) (d':=d) (t':=t) (ch:=[]) un hok bare (λb z=>absurd z (by simp)),r,q⟩
end
def qn6 (sp:Sp)(dvs:List V)(E:XK)(t:TA):TE:=λσ H Q=>t σ H λvs H1=>sp (vs++dvs) H1 Q E
def qqZ (C:Addr)(m:Str)(sp:Sp)(dvs:List V)(E:XK)(ta:TE)(t:TA):TE:=λσ H Q=>ta σ H λx H1=>∃a dx fs,x = .ref a/\H1 a=some (.ins C dx fs)/\fs.lookup m=none /\
 t σ H1 λvs H2=>sp (x::(vs++dvs)) H2 Q E
def qpU (C:Addr)(sp:Sp)(dvs:List V)(E:XK)(t:TA):TE:=λσ H Q=>t σ H λvs H1=>∀x dx,H1 x=none->H1 dx=none->dx≠x ->
 sp (.ref x::(vs++dvs)) (upd (upd H1 dx (.own x)) x (.ins C dx [])) (λv H2=>v = .non/\Q (.ref x) H2) E
def qdA (K:PySem.W.Frag)(fd:FuncData)(ps:List Str)(ds:List Value):Prop :=
 ∀(s:Shared) (us:List Value),K.In s.heap->(us++ds).length=ps.length->BindsTo s fd ⟨us,[]⟩ (ps.zip (us++ds))
theorem qdA.all {K:PySem.W.Frag}{fd:FuncData}{ps:List Str}(h:∀us:List Value,us.length=ps.length->bindArgs fd ⟨us,[]⟩=pure (ps.zip us)):qdA K fd ps []:=λs us _ hl=>by
 rw[yed] at hl⊢;exact .of_eq (h us hl)
def qgt (CX:CXT)(X:Cx)(E:XK):Prop:=∀(pins:List (Addr×Obj)) (σ:St) (H:Hp) (s:Shared) (e:Value) (s':Shared),Inv X pins σ H s->CX X.stack H s E e s'->X.xe e s'
section
variable {X:Cx}{CX:CXT}{k:Nat}{f C:Addr}{fd:FuncData}{ps:List Str}{sp:Sp}{dvs:List V}{ds:List Value}{E:XK}{x m:Str}{p pos apos:Pos}{e o:Expr}{es:List Expr}{ta:TE}{t:TA}
theorem qpb {pins:List (Addr×Obj)}{σ:St}{H:Hp}{s:Shared}{Q:VK}{us:List Value}{vs:List V}(F:qaM X.prog X.w X.K X.mg X.base CX k f fd ps sp)(hr:qdE k X.A)(hb:qdA X.K fd ps ds)(hd:qaN dvs ds)(hx:qgt CX X E)
 (I:Inv X pins σ H s)(r:qaN vs us)(h:sp (vs++dvs) H Q E):wpAny (model X.prog X.w) X.A (call (.ref f) us) (EP X pins σ Q) X.xe s:=by
 have r2:qaN (vs++dvs) (us++ds):=r.append hd;have hl:(us++ds).length=ps.length:=by rw[<-r2.length];exact F.len _ _ _ _ h
 refine wpAny_call (codeAny_mono (F.run X.A X.stack s H ⟨us,[]⟩ (us++ds) (vs++dvs) Q E hr I.env0 (hb s us I.kIn hl) r2 h) λr s' hq=>?_);cases r with
 | error e=>exact hx pins σ H s e s' I hq
 | ok fl =>
  cases fl with
  | ret u=>exact I.after hq
  | next=>exact False.elim hq
  | brk=>exact False.elim hq
  | cont=>exact False.elim hq
theorem qqn (F:qaM X.prog X.w X.K X.mg X.base CX k f fd ps sp)(hr:qdE k X.A)(hg:Gl X x)(hm:X.mg x=some (.ref f))(hk:PySem.W.keepIn X.K (.ref f)=true)(hb:qdA X.K fd ps ds)(hd:qaN dvs ds)(hx:qgt CX X E)
 (ha:PA X (e::es) t)(hdb:(x==("__debug__" : Str))=false:=by decide)(he:starEach (e::es) X.env=(false,eval e X.env)::starEach es X.env:=by rfl)(hpl:(backTo pos (starEach es X.env)).any (·.1)=false:=by rfl) :
 PE X (.Call (.Name x p) (e::es) [] pos) (qn6 sp dvs E t):=by
 intro pins s σ H Q I h;refine wpAny_Call_Name_kw (qiV I hg hm ?_ hdb);refine PySem.W.callWith_K (h₀:=X.base) I.ok.mod.kin hk (thn (ha pos pins s σ H _ I h) λus s1 ⟨vs,H1,I1,r,q⟩=>⟨I1.kIn,?_⟩) he hpl;exact qpb F hr hb hd hx I1 r q
theorem qpY {pl:Sem Bool}(he:PE X o ta)(c:Cls X.K C)(hm:qsz X.K C m f)(F:qaM X.prog X.w X.K X.mg X.base CX k f fd ps sp)(hr:qdE k X.A)(hb:qdA X.K fd ps ds)(hd:qaN dvs ds)(hx:qgt CX X E)(ha:PA X (e::es) t)
 (hst:starEach (e::es) X.env=(false,eval e X.env)::starEach es X.env:=by rfl)(hpl:(backTo pos (starEach es X.env)).any (·.1)=false:=by rfl)
 (ht:eval (.Call (.Attribute o m apos) (e::es) [] pos) X.env=(do
  let ov <-eval o X.env
  standAt apos.atName
  let (f,first) <-holding [ov] (getMethod ov m pl)
  callWith pos f first (backTo pos (starEach (e::es) X.env)) (backToKw pos (keywordEach [] X.env))):=by rfl) :
 PE X (.Call (.Attribute o m apos) (e::es) [] pos) (qqZ C m sp dvs E ta t):=by
 intro pins s σ H Q I h;refine PySem.W.methodCall_KW (pl:=pl) (thn (he pins s σ H _ I h) λu s1 ⟨x,H1,I1,rx,a,dx,fs,ex,ea,l,q⟩=>?_) ht;subst ex;obtain rfl:u=Value.ref a:=rx;refine qgf I1 ea c hm l ?_;refine PySem.W.callWith_K (first:=[.ref a]) (h₀:=X.base) I.ok.mod.kin hm.kp (thn (ha pos pins s1 σ H1 _ I1 q) λus s2 ⟨vs,H2,I2,r,q2⟩=>⟨I2.kIn,?_⟩) hst hpl;exact qpb (us := .ref a::us) (vs := .ref a::vs) F hr hb hd hx I2 (.cons rfl r) q2
structure Mk (K:PySem.W.Frag)(C f:Addr):Prop where
 makes:PySem.W.makesIn K C=true
 init:PySem.W.findIn K (.ref C) "__init__" = some (some (.ref f))
 fn:PySem.W.isFn K (.ref f)=true
 kp:PySem.W.keepIn K (.ref C)=true
theorem qnZ {pins:List (Addr×Obj)}{σ:St}{H:Hp}{s:Shared}{Q:VK}{us:List Value}{vs:List V}(M:Mk X.K C f) (F:qaM X.prog X.w X.K X.mg X.base CX k f fd ps sp) (hr:qdE (k+1) X.A) (hb:qdA X.K fd ps ds) (hd:qaN dvs ds)
 (hx:qgt CX X E) (I:Inv X pins σ H s) (r:qaN vs us)
 (h:∀x dx,H x=none->H dx=none->dx≠x->sp (.ref x::(vs++dvs)) (upd (upd H dx (.own x)) x (.ins C dx [])) (λv H2=>v = .non/\Q (.ref x) H2) E) :
 wpAny (model X.prog X.w) X.A (call (.ref C) us) (EP X pins σ Q) X.xe s:=by
 have hq:=h (s.heap.objs.size+1) s.heap.objs.size (I.hok.fresh (ycx _)) (I.hok.fresh (yaz _)) (ydx (ycy _));have I2:=Inv.made (C:=C) I;have r2:qaN (V.ref (s.heap.objs.size+1)::(vs++dvs)) (Value.ref (s.heap.objs.size+1)::(us++ds)) := .cons rfl (r.append hd)
 have hl:(Value.ref (s.heap.objs.size+1)::us++ds).length=ps.length:=by
  have e:=r2.length;rw[F.len _ _ _ _ hq] at e;exact e.symm
 refine wpAny_call (qob (f:=f) I.kIn M.makes M.init (beq_iff_eq.mp M.fn) (codeAny_mono (F.run _ X.stack _ _ ⟨Value.ref (s.heap.objs.size+1)::us,[]⟩ (Value.ref (s.heap.objs.size+1)::(us++ds)) _ _ E (hr.make C us [])
  (I2.env0.make C us []) (hb _ (Value.ref (s.heap.objs.size+1)::us) I2.kIn hl) r2 hq) λr s' hq'=>?_))
 cases r with
 | error e=>exact hx pins σ _ _ e s' I2 hq'
 | ok fl =>
  cases fl with
  | ret u =>
   obtain⟨v,H',I3,rv,ev,q3⟩:=I2.after hq';subst ev;exact⟨rv,⟨V.ref (s.heap.objs.size+1),H',I3,rfl,q3⟩⟩
  | next=>exact False.elim hq'
  | brk=>exact False.elim hq'
  | cont=>exact False.elim hq'
theorem qpZ (M:Mk X.K C f)(F:qaM X.prog X.w X.K X.mg X.base CX k f fd ps sp)(hr:qdE (k+1) X.A)(hg:Gl X x)(hm:X.mg x=some (.ref C))(hb:qdA X.K fd ps ds)(hd:qaN dvs ds)(hx:qgt CX X E)
 (ha:PA X (e::es) t)(hdb:(x==("__debug__" : Str))=false:=by decide)(he:starEach (e::es) X.env=(false,eval e X.env)::starEach es X.env:=by rfl)(hpl:(backTo pos (starEach es X.env)).any (·.1)=false:=by rfl) :
 PE X (.Call (.Name x p) (e::es) [] pos) (qpU C sp dvs E t):=by
 intro pins s σ H Q I h;refine wpAny_Call_Name_kw (qiV I hg hm ?_ hdb);refine PySem.W.callWith_K (h₀:=X.base) I.ok.mod.kin M.kp (thn (ha pos pins s σ H _ I h) λus s1 ⟨vs,H1,I1,r,q⟩=>⟨I1.kIn,?_⟩) he hpl;exact qnZ M F hr hb hd hx I1 r q
end
def PK (X:Cx)(kws:List Keyword)(t:TA):Prop :=
 ∀(pos:Pos) (pins:List (Addr×Obj)) (s:Shared) (σ:St) (H:Hp) (Q:List V->Hp->Prop),Inv X pins σ H s->t σ H Q->wpAny (model X.prog X.w) X.A (evalAll ((backToKw pos (keywordEach kws X.env)).map (·.2))) (AP X pins σ Q) X.xe s
section
variable {X:Cx}{CX:CXT}{k:Nat}{f C:Addr}{fd:FuncData}{ps ks:List Str}{sp:Sp}{E:XK}{x m:Str}{p pos apos kpos:Pos}{e o:Expr}{es:List Expr}{kws:List Keyword}{te ta:TE}{t tk:TA}{nm:Option Str}
theorem qo5:PK X [] qtw:=λ_ _ _ _ H Q I h=>wpAny_evalAll_nil ⟨[],H,I,.nil,h⟩
theorem ql5 (ha:PE X e te)(hr:PK X kws t):PK X (⟨nm,e,kpos⟩::kws) (qiD te t):=by
 intro pos pins s σ H Q I h;show wpAny _ _ (evalAll ((do let v <-eval e X.env;standAt pos;pure v)::(backToKw pos (keywordEach kws X.env)).map (·.2))) _ _ s;refine wpAny_evalAll_cons (wpAny_bind (thn (ha pins s σ H _ I h) λu s1 ⟨x,H1,I1,r1,q1⟩=>wpAny_bind (wpAny_standAt (wpAny_pure ?_))));exact thn (hr pos pins s1 σ H1 _ I1 q1) λus s2 ⟨xs,H2,I2,r2,q2⟩=>⟨x::xs,H2,I2,.cons r1 r2,q2⟩
structure qus (K:PySem.W.Frag)(fd:FuncData)(ps ks:List Str)(g:List Value->List Value->List Value)(gV:List V->List V->List V):Prop where
 to:∀(s:Shared) (us ws:List Value),K.In s.heap->(g us ws).length=ps.length->BindsTo s fd ⟨us,ks.zip ws⟩ (ps.zip (g us ws))
 rel:∀{vs:List V}{us:List Value}{zs:List V}{ws:List Value},qaN vs us->qaN zs ws->qaN (gV vs zs) (g us ws)
variable {g:List Value->List Value->List Value}{gV:List V->List V->List V}
end
structure qal (N P:List Str)(sc:Scope):Prop where
 kind:sc.kind = .function
 co:sc.isCoroutine=false
 gen:sc.isGenerator=false
 nd:N.Nodup
 pre:N.take P.length=P
 par:∀x∈P,sc.names.lookup x=some .local\/sc.names.lookup x=some .cell
 nofree:∀y∈sc.names,y.2 ≠ .free
theorem qhu {kindOf:Str->Option NameKind}{x:Str}:∀{binds:List (Str×Value)}{m:Str->Option Value},(∀v,(x,v)∉binds)->bindL kindOf binds m x=m x
 | [],_,_=>rfl
 | (n,v)::r,m,h=>by
  unfold bindL;rw[qhu λw hw=>h w (ybg _ hw)];split
  .have:x≠n:=by rintro rfl;exact h v ybd
   simp[this]
  .rfl
theorem qhP {kindOf:Str->Option NameKind}{x:Str}:∀{binds:List (Str×Value)}{m:Str->Option Value},(∀v,(x,v)∉binds)->bindC kindOf binds m x=m x
 | [],_,_=>rfl
 | (n,v)::r,m,h=>by
  unfold bindC;rw[qhP λw hw=>h w (ybg _ hw)];split
  .rfl
  .have:x≠n:=by rintro rfl;exact h v ybd
   simp[this]
theorem qhv {kindOf:Str->Option NameKind}{x:Str}{v:Value}:∀{P:List Str}{vs:List Value}{i:Nat}{m:Str->Option Value},P.Nodup->P[i]?=some x->vs[i]?=some v->kindOf x=some .local ->
 bindL kindOf (P.zip vs) m x=some v
 | [],_,_,_,_,h,_,_=>by simp at h
 | _::_,[],_,_,_,_,h,_=>by simp at h
 | p::P,w::vs,0,m,nd,h1,h2,hk=>by
  simp at h1 h2;subst h1;subst h2;show bindL kindOf ((p,w)::P.zip vs) m p=_;unfold bindL;rw[qhu λv hv=>(yca.mp nd).1 (yez hv).1,if_pos hk];simp
 | p::P,w::vs,i+1,m,nd,h1,h2,hk=>by
  show bindL kindOf ((p,w)::P.zip vs) m x=_;unfold bindL;exact qhv (i:=i) (yca.mp nd).2 (by simpa using h1) (by simpa using h2) hk
theorem qhJ {kindOf:Str->Option NameKind}{x:Str}{v:Value}:∀{P:List Str}{vs:List Value}{i:Nat}{m:Str->Option Value},P.Nodup->P[i]?=some x->vs[i]?=some v->kindOf x≠some .local ->
 bindC kindOf (P.zip vs) m x=some v
 | [],_,_,_,_,h,_,_=>by simp at h
 | _::_,[],_,_,_,_,h,_=>by simp at h
 | p::P,w::vs,0,m,nd,h1,h2,hk=>by
  simp at h1 h2;subst h1;subst h2;show bindC kindOf ((p,w)::P.zip vs) m p=_;unfold bindC;rw[qhP λv hv=>(yca.mp nd).1 (yez hv).1,if_neg hk];simp
 | p::P,w::vs,i+1,m,nd,h1,h2,hk=>by
  show bindC kindOf ((p,w)::P.zip vs) m x=_;unfold bindC;exact qhJ (i:=i) (yca.mp nd).2 (by simpa using h1) (by simpa using h2) hk
def qii (N:List Str)(vs:List V):St:=vs.map some++List.replicate (N.length-vs.length) none
def qqL (CX:CXT)(P:Program)(w:World)(K:PySem.W.Frag)(mg:Str->Option Value)(base:Heap)(N:List Str)(qual:Str)(scope:Scope)(f:Addr)(cd:Value)(A:Around)(outer:List Env)(s:Shared)(H:Hp)(E:XK):Cx where
 prog:=P
 w:=w
 K:=K
 mg:=mg
 base:=base
 A:=A.deeper (envOfC qual scope s.heap.objs.size f cd)
 N:=N
 s₀:=s
 H₀:=H
 env:=envOfC qual scope s.heap.objs.size f cd
 outer:=outer
 stack:=envOfC qual scope s.heap.objs.size f cd::outer
 ex:=[]
 calm:=true
 fn:=λ_=>true
 pn:=[]
 xe:=λe s'=>wpAny (model P w) (A.deeper (envOfC qual scope s.heap.objs.size f cd)) (leaving (envOfC qual scope s.heap.objs.size f cd) e) (λ_ s''=>CX outer H s E e s'') (λe' s''=>CX outer H s E e' s'') s'
theorem qjU {sc:Scope}{n:Nat}{x:Str}(h:sc.names.lookup x=some .cell):∃c,(cellsFrom n sc.names []).lookup x=some c:=by
 have q:=PySem.W.cellsFrom_some sc.names n [] (.inl h);exact yfa.mp q
theorem qm5 {CX:CXT}{P:Program}{w:World}{K:PySem.W.Frag}{mg:Str->Option Value}{base:Heap}{N ps:List Str}{qual:Str}{scope:Scope}{f:Addr}{cd:Value}{A:Around}{outer:List Env}{s s1:Shared}{H:Hp}{E:XK}{us:List Value}{vs:List V}
 (S:qal N ps scope)(hd:A.handled=none)(e0:qrm P w K mg base A outer s H)(hl:vs.length=ps.length)(r:qaN vs us)
 (x:InCallC s s.heap.objs.size (bindL (envOfC qual scope s.heap.objs.size f cd).kindOf (ps.zip us) λ_=>none) (cellsFrom (s.heap.objs.size+1) scope.names []) (bindC (envOfC qual scope s.heap.objs.size f cd).kindOf (ps.zip us) λ_=>none) s1) :
 Inv (qqL CX P w K mg base N qual scope f cd A outer s H E) [] (qii N vs) H s1:=by
 have hpl:ps.length<=N.length:=by have:=congrArg List.length S.pre;rw[yfb] at this;omega
 obtain⟨h1,tk,rfl,hk⟩:=x.done;have noA:∀b:Addr,b∉(qqL CX P w K mg base N qual scope f cd A outer s H E).ex:=λb z=>absurd (show b∈([]:List Addr) from z) (by simp)
 refine⟨⟨e0.mod,S.kind,rfl,rfl,yaz _,λy z c h1 h2=>?_,λy hy=>?_,λy c _ h=>?_,λ_=>hd,Around.frames_deeper e0.frames,.inr ⟨rfl,rfl⟩,λb z=>absurd z (noA b),e0.bs,e0.bsz,λb _ _=>noA b,λb z=>absurd z (noA b),e0.funs,e0.frf⟩,
  rfl,e0.bare,Un.kept hk,⟨_,x.toInCall.ns,λi y v h1 h2 h3=>?_⟩,λy c h=>⟨_,x.cell y c h⟩,e0.hok.fresh (yaz _),λy c h=>?_,λp hp=>absurd (show p∈([]:List (Addr×Obj)) from hp) (by simp),e0.hok.kept hk,?_⟩
 .exact name_of_addr x.apart (PySem.mem_of_lookup h1) (PySem.mem_of_lookup h2)
 .have hy:scope.names.lookup y=some .cell\/scope.names.lookup y=some .free:=hy
  rcases hy with hy | hy
  .exact qjU hy
  .exact absurd rfl (S.nofree _ (PySem.mem_of_lookup hy))
 .exact ydc (x.above y c (PySem.mem_of_lookup h))
 .have hi:i<vs.length:=by
   unfold qii at h2;by_cases hi:i<vs.length
   .exact hi
   .rw[yfc (by simpa using hi)] at h2
    rw[yfd] at h2;split at h2<;>cases h2
  have ha:vs[i]?=some v:=by
   unfold qii at h2;rw[yfe (by simpa using hi),ycp] at h2;cases e:vs[i]? with
   | none=>rw[e] at h2;cases h2
   | some a=>rw[e] at h2;cases h2;rfl
  obtain⟨u,hu,rv⟩:=r.get ha
  have hp:ps[i]?=some y:=by
   rw[<-S.pre,List.getElem?_take_of_lt (by omega)];exact h1
  have ndP:ps.Nodup:=by rw[<-S.pre];exact S.nd.sublist (List.take_sublist _ _)
  refine⟨u,rv,?_⟩;rcases S.par y (ycl hp) with k | k
  .exact .inl ⟨k,qhv ndP hp hu k⟩
  .obtain⟨c,e⟩:=qjU (n:=s.heap.objs.size+1) k
   refine .inr ⟨.inl k,c,e,?_⟩;have q:=x.cell y c e;rw[qhJ ndP hp hu (by show scope.names.lookup y≠_;rw[k];decide)] at q;exact q
 .exact e0.hok.fresh (ydc (x.above y c (PySem.mem_of_lookup h)))
 .unfold qii
  show _=N.length;rw[ydq,ycd,yff];omega
theorem quf {CX:CXT}{P:Program}{w:World}{K:PySem.W.Frag}{mg:Str->Option Value}{base:Heap}{k:Nat}{f:Addr}{name qual:Str}{params:Arguments}{body:List Stmt}{scope:Scope}{dV kV doc pm cdv ct oc:Value}{an od:Option Addr}
 {osl:Array (Option Value)}{N ps:List Str}{sp:Sp}(lk:K.lookup f=some ⟨oc,od,.func (PySem.W.fnOf name qual params body scope dV kV doc pm an cdv ct),osl⟩)(hcd:PySem.W.codeIn K cdv qual=true)(S:qal N ps scope)
 (len:∀vs H Q E,sp vs H Q E->vs.length=ps.length)
 (hbody:∀(A:Around) (outer:List Env) (s:Shared) (H:Hp) (vs:List V) (Q:VK) (E:XK),qdE k (A.deeper (envOfC qual scope s.heap.objs.size f cdv))->sp vs H Q E ->
  ∃t,PSs (qqL CX P w K mg base N qual scope f cdv A outer s H E) body t/\t { nx:=λ_ H'=>Q .non H',rt:=Q } (qii N vs) H) :
 qaM P w K mg base CX (k+1) f (PySem.W.fnOf name qual params body scope dV kV doc pm an cdv ct) ps sp:=by
 refine⟨len,λA outer s H args us vs Q E hr e0 hb r hsp=>?_⟩;have hl:=len _ _ _ _ hsp;have KX:K.In s.heap:=e0.mod.kin.keeps λb o e=>(e0.bs b o e).1;have lim:s.heap.NoLimit:=e0.mod.nolimit.keeps λb o e=>(e0.bs b o e).1
 have hkind:∀y∈ps.zip us,scope.names.lookup y.1=some .local\/(scope.names.lookup y.1=some .cell/\((cellsFrom (s.heap.objs.size+1) scope.names []).lookup y.1).isSome=true):=λ⟨n,v⟩ hy=>by
  rcases S.par n (yez hy).1 with q | q
  .exact .inl q
  .exact .inr ⟨q,PySem.W.cellsFrom_some _ _ _ (.inl q)⟩
 refine codeAny_call_function hr.depth (KX _ _ lk) rfl S.co S.gen rfl (PySem.W.codeRec_of KX hcd) (hb _ _ _ _ ?_);refine wpAny_newFunctionEnv_cells S.kind hkind λenv he s1 x=>?_;subst he;refine⟨lim.keeps x.toInCall.keep,codeAny_func ?_⟩;obtain⟨t,ht,hq⟩:=hbody A outer s H vs Q E (hr.deeper _) hsp;have I:Inv (qqL CX P w K mg base N qual scope f cdv A outer s H E) [] (qii N vs) H s1:=qm5 S hr.hd e0 hl r x;refine wpAny_mono (ht [] s1 (qii N vs) H _ I hq) (λfl s' hs=>?_) λe s' hs=>hs
 have fin:∀{σ':St}{H':Hp}{v:V}{u:Value},Inv (qqL CX P w K mg base N qual scope f cdv A outer s H E) [] σ' H' s'->qbc v u->Q v H'->CE outer P w H s Q u s' :=
  λ{σ' H' v u} J rv q=>⟨v,H',J.os,J.bare,J.base,J.hok,rv,q⟩
 cases fl with
 | ret u =>
  obtain⟨v,σ',H',J,rv,q⟩:=hs;exact fin J rv q
 | next =>
  obtain⟨σ',H',J,q⟩:=hs;exact fin (v:=V.non) (u:=Value.none) J rfl q
 | brk =>
  obtain⟨_,_,_,q⟩:=hs;exact False.elim q
 | cont =>
  obtain⟨_,_,_,q⟩:=hs;exact False.elim q
end L2
namespace L2
open PySem PySem.Spec PyProof.Rows
section
variable {X:Cx}{x:Str}{p pos:Pos}{e:Expr}{es:List Expr}{t:TA}{id T:String}{r:List V->Hp->VK->Prop}
def tCB (r:List V->Hp->VK->Prop)(t:TA):TE:=λσ H Q=>t σ H λvs H1=>r vs H1 Q
theorem qas (hc:qcl X (.builtin id) r)(hg:Gl X x)(hm:X.mg x=none)(hv:bootBuiltins x=some (.builtin id))(ha:PA X (e::es) t)(hn:x ≠ "__name__" := by decide)(hdb:(x==("__debug__" : Str))=false:=by decide)
 (he:starEach (e::es) X.env=(false,eval e X.env)::starEach es X.env:=by rfl)(hpl:(backTo pos (starEach es X.env)).any (·.1)=false:=by rfl):PE X (.Call (.Name x p) (e::es) [] pos) (tCB r t):=by
 intro pins s σ H Q I h;refine wpAny_Call_Name_kw (qdc I hg hm hv ?_ hn hdb);exact PyProof.Rows.callWith_builtin1 (thn (ha pos pins s σ H _ I h) λus s1 ⟨vs,H1,I1,r1,q1⟩=>hc pins s1 σ H1 vs us Q I1 r1 q1) he hpl
theorem qba (hc:qcl X (.type T) r)(hg:Gl X x)(hm:X.mg x=none)(hv:bootBuiltins x=some (.type T))(ha:PA X (e::es) t)(hn:x ≠ "__name__" := by decide)(hdb:(x==("__debug__" : Str))=false:=by decide)
 (he:starEach (e::es) X.env=(false,eval e X.env)::starEach es X.env:=by rfl)(hpl:(backTo pos (starEach es X.env)).any (·.1)=false:=by rfl):PE X (.Call (.Name x p) (e::es) [] pos) (tCB r t):=by
 intro pins s σ H Q I h;refine wpAny_Call_Name_kw (qdc I hg hm hv ?_ hn hdb);exact PyProof.Rows.callWith_type1 (thn (ha pos pins s σ H _ I h) λus s1 ⟨vs,H1,I1,r1,q1⟩=>hc pins s1 σ H1 vs us Q I1 r1 q1) he hpl
end
end L2
namespace HT
open PySem PyProof.Rows
section
open PySem.SeqAt
open PySem.AutoSeq1 (wpAny_loadPart')
open PySem.MeetsSeq PySem.MeetsSeq2 PySem.MeetsSeq3
end
section
variable {prog:Program}{w:World}{A:Around}{E:Value->Shared->Prop}{s:Shared}
def sIx (n d:Nat):Option Int->Nat
 | none=>d
 | some v=>if v<0 then (v+(n:Int)).toNat else min v.toNat n
theorem sIx_nat (n d k:Nat):sIx n d (some (k:Int))=min k n:=by
 show(if (k:Int)<0 then ((k:Int)+(n:Int)).toNat else min (k:Int).toNat n)=min k n;rw[if_neg (by omega),yfg]
theorem qrM (n d:Nat)(hd:d<=n)(o:Option Int):sIx n d o<=n:=by
 cases o with
 | none=>exact hd
 | some v =>
  show(if v<0 then (v+(n:Int)).toNat else min v.toNat n)<=n;by_cases hv:v<0
  .rw[if_pos hv];omega
  .rw[if_neg hv];exact Nat.min_le_right _ _
theorem qk5 (v:Int)(n d:Nat):(if v<0 then max (v+(n:Int)) 0 else min v (n:Int))=((sIx n d (some v):Nat):Int):=by
 show(if v<0 then max (v+(n:Int)) 0 else min v (n:Int))=(((if v<0 then (v+(n:Int)).toNat else min v.toNat n):Nat):Int);by_cases hv:v<0
 .simp only[if_pos hv];omega
 .simp only[if_neg hv];omega
theorem qj5 (lo hi:Option Int)(n:Nat):Builtin.Slice.sliceAdjust lo hi 1 (n:Int)=(((sIx n 0 lo:Nat):Int),((sIx n n hi:Nat):Int)):=by
 have h1:¬((1:Int)<0):=by omega
 unfold Builtin.Slice.sliceAdjust;simp only[h1,if_false];refine Prod.ext ?_ ?_
 .cases lo with
  | none=>rfl
  | some v=>exact qk5 v n 0
 .cases hi with
  | none=>rfl
  | some v=>exact qk5 v n n
theorem qkx (i j:Nat):Builtin.Slice.slicePlaces (i:Int) (j:Int) 1=j-i:=by
 unfold Builtin.Slice.slicePlaces;have h1:(1:Int)>0:=by omega
 simp only[h1,if_true,Int.ediv_one];split<;>omega
theorem qgo {v:Value}{o:Option Int}{Q:Option Int->Shared->Prop}(p:IsPart v o)(h:Q o s):wpAny (model prog w) A (Builtin.Slice.slicePartIndex v) Q E s:=by
 cases p with
 | none=>exact slicePart_none h
 | int i t=>exact slicePart_int h
theorem qeX {sl:Addr}{vl vu:Value}{lo hi:Option Int}{n:Nat}{Q:Int×Int×Nat->Shared->Prop}(hs:s.heap.IsSliceOf sl vl vu .none)(pl:IsPart vl lo)(pu:IsPart vu hi)
 (h:Q (((sIx n 0 lo:Nat):Int),1,sIx n n hi-sIx n 0 lo) s):wpAny (model prog w) A (Builtin.Slice.sliceApplied (.ref sl) (pure (n:Int))) Q E s:=by
 obtain⟨os,hos,hcs,hds⟩:=id hs;unfold Builtin.Slice.sliceApplied Builtin.Slice.sliceFields;refine wpAny_bind (wpAny_bind (wpAny_field hos hds (x:=vl) rfl (wpAny_bind (wpAny_field hos hds (x:=vu) rfl (wpAny_bind (wpAny_field hos hds (x := .none) rfl (wpAny_pure ?_)))))));refine wpAny_bind (slicePart_none ?_);show wpAny _ _ (if ((1:Int)==0)=true then _ else _) _ _ s;rw[if_neg (by decide)];refine wpAny_bind (qgo pl (wpAny_bind (qgo pu (wpAny_bind (wpAny_pure ?_)))));show wpAny _ _ (match Builtin.Slice.sliceAdjust lo hi 1 (n:Int) with | (lo,hi)=>pure (lo,(1:Int),Builtin.Slice.slicePlaces lo hi 1)) _ _ s;rw[qj5 lo hi n];show wpAny _ _ (pure (((sIx n 0 lo:Nat):Int),(1:Int),Builtin.Slice.slicePlaces ((sIx n 0 lo:Nat):Int) ((sIx n n hi:Nat):Int) 1)) _ _ s;rw[qkx];exact wpAny_pure h
theorem qoy (xs:Array Value)(i k:Nat):((List.range k).filterMap λ(m:Nat)=>xs[((i:Int)+(m:Int)*1).toNat]?).toArray=((xs.toList.drop i).take k).toArray:=by
 have e:(λ(m:Nat)=>xs[((i:Int)+(m:Int)*1).toNat]?)=λm=>xs[i+m]?:=by
  funext m;have:((i:Int)+(m:Int)*1).toNat=i+m:=by omega
  rw[this]
 rw[e];have:=pick_run xs i k;rw[List.filterMap_map] at this;have e2:((λx=>xs[x]?) ∘ λx=>i+x)=λm=>xs[i+m]?:=rfl;rw[e2] at this;rw[this]
theorem getItem_tuple_cut {t sl:Addr}{items:Array Value}{vl vu:Value}{lo hi:Option Int}{Q:Value->Shared->Prop}(ht:IsTup s.heap t items)(hs:s.heap.IsSliceOf sl vl vu .none)(pl:IsPart vl lo)(pu:IsPart vu hi)
 (hw:¬(sIx items.size 0 lo=0/\sIx items.size items.size hi=items.size))
 (h:Q (.ref s.heap.objs.size) { s with heap:=s.heap.push { cls := .type "tuple",data := .seq ((items.toList.drop (sIx items.size 0 lo)).take (sIx items.size items.size hi-sIx items.size 0 lo)).toArray } })
 (hsz:items.size<=sizeLine):wpAny (model prog w) A (getItem (.ref t) (.ref sl)) Q E s:=by
 have htake:sizeOk (.seq ((items.toList.drop (sIx items.size 0 lo)).take (sIx items.size items.size hi-sIx items.size 0 lo)).toArray):=by
  show((items.toList.drop (sIx items.size 0 lo)).take (sIx items.size items.size hi-sIx items.size 0 lo)).toArray.size<=sizeLine;rw[yfh,yfb,ydg,ydh];omega
 have hj:sIx items.size items.size hi<=items.size:=qrM _ _ (yaz _) hi;obtain⟨os,hos,hcs,hds⟩:=id hs;have hTs:s.TypeIs (.ref sl) "slice" := ⟨os,hos,hcs⟩;unfold getItem
 try with_reducible refine wpAny_holding ?_
 first | refine wpAny_bind (wpAny_pure ?_) | skip
 refine wpAny_bind (wpAny_sequenceKey ht.typeIs (by decide) ?_)
 refine wpAny_bind (wpAny_callSpecial?_slot (name:=Str.ofString "__getitem__") ht.typeIs PyProof.Rows.slot_tuple_getitem
  (wpAny_call_entry PyProof.Rows.slot_tuple_getitem ht.typeIs entry_tuple_getitem ?_ (args_tuple_getitem _ _)))
 show wpAny _ _ (Builtin.Tuple.tupleItemsOf (.ref t) >>= _) _ _ s;refine wpAny_bind (tupleItemsOf_ ht ?_);refine wpAny_bind (wpAny_typeOf hTs ?_);rw[if_pos (by decide)];refine wpAny_bind (qeX hs pl pu ?_)
 have hno:¬((((sIx items.size 0 lo:Nat):Int)==0&&(1:Int)==1&&(sIx items.size items.size hi-sIx items.size 0 lo)==items.size)=true):=by
  intro q;rw[yab,yab] at q;have q1:((sIx items.size 0 lo:Nat):Int)=0:=eq_of_beq q.1.1;have q2:sIx items.size items.size hi-sIx items.size 0 lo=items.size:=eq_of_beq q.2;exact hw ⟨by omega,by omega⟩
 show wpAny _ _ (if (((sIx items.size 0 lo:Nat):Int)==0&&(1:Int)==1&&(sIx items.size items.size hi-sIx items.size 0 lo)==items.size)=true then _ else _) _ _ s;rw[if_neg hno,qoy]
 first
  | exact wpAny_bind (m:=Builtin.Tuple.tupleExact _) (wpAny_newObj_type (wpAny_pure ⟨_,rfl,wpAny_pure h⟩) htake)
  | exact wpAny_bind (m:=Builtin.Tuple.tupleExact _) (wpAny_newObj_type (wpAny_bind (wpAny_pure (wpAny_pure ⟨_,rfl,wpAny_pure h⟩))) htake)
  | exact wpAny_bind (wpAny_bind (m:=Builtin.Tuple.tupleExact _) (wpAny_newObj_type (wpAny_pure (wpAny_pure ⟨_,rfl,wpAny_pure h⟩)) htake))
  | exact wpAny_bind (wpAny_bind (m:=Builtin.Tuple.tupleExact _) (wpAny_newObj_type (wpAny_pure ⟨_,rfl,wpAny_pure h⟩) htake))
end
end HT
namespace L2
open PySem PySem.Spec PyProof.Rows
abbrev TO:=St->Hp->(Option Int->Hp->Prop)->Prop
def PO (X:Cx)(e:Option Expr)(t:TO):Prop :=
 ∀(pins:List (Addr×Obj)) (s:Shared) (σ:St) (H:Hp) (Q:Option Int->Hp->Prop),Inv X pins σ H s->t σ H Q ->
  wpAny (model X.prog X.w) X.A (evalPart e X.env) (λu s'=>∃o H',Inv X pins σ H' s'/\IsPart u o/\Q o H') X.xe s
def qkY:TO:=λ_ H Q=>Q none H
def qsn (t:TE):TO:=λσ H Q=>t σ H λx H1=>∃i,x = .int i/\Q (some i) H1
theorem qca {ns:List Int}:∀{us:List Value},qaN (ns.map V.int) us->IntsAre us ns:=by
 induction ns with
 | nil=>intro us r;rw[yfi] at r;cases r;exact .nil
 | cons n ns ih =>
  intro us r;rw[ycg] at r;cases r with
  | cons r1 r2 =>
   obtain⟨t,e⟩:=r1;subst e;exact .cons n t (ih r2)
section
variable {X:Cx}{e:Expr}{te:TE}{lo hi:Option Expr}{tl th:TO}{pos p2:Pos}
theorem qbm:PO X none qkY:=by
 intro pins s σ H Q I h;rw[evalPart_none];exact wpAny_pure ⟨none,H,I,.none,h⟩
theorem qa7 (h:PE X e te):PO X (some e) (qsn te):=by
 intro pins s σ H Q I hw;rw[evalPart_some];refine thn (h pins s σ H _ I hw) λu s1 ⟨x,H1,I1,r1,q1⟩=>?_;obtain⟨i,rfl,q⟩:=q1;obtain⟨t,rfl⟩:=r1;exact⟨some i,H1,I1,.int i t,q⟩
def SlR (X:Cx)(r:V->Option Int->Option Int->Hp->VK->Prop):Prop :=
 ∀(pins:List (Addr×Obj)) (s:Shared) (σ:St) (H:Hp) (x:V) (v vl vu:Value) (lo hi:Option Int) (sl:Addr) (Q:VK),Inv X pins σ H s->qbc x v->s.heap.IsSliceOf sl vl vu .none->IsPart vl lo->IsPart vu hi->r x lo hi H Q ->
  ∃T id,typeLookup (.type T) "__getitem__" = pure (some (.builtin id))/\s.TypeIs v T/\wpAny (model X.prog X.w) X.A (getItem v (.ref sl)) (EP X pins σ Q) X.xe s
def tSl (r:V->Option Int->Option Int->Hp->VK->Prop)(te:TE)(tl th:TO):TE:=λσ H Q=>te σ H λx H1=>tl σ H1 λl H2=>th σ H2 λu H3=>r x l u H3 Q
theorem qaS {r:V->Option Int->Option Int->Hp->VK->Prop}(hr:SlR X r)(he:PE X e te)(hl:PO X lo tl)(hu:PO X hi th):PE X (.Subscript e (.Slice lo hi none p2) pos) (tSl r te tl th):=by
 intro pins s σ H Q I h;refine Subscript_ (thn (he pins s σ H _ I h) λv s1 ⟨x,H1,I1,r1,q1⟩=>?_);refine wpAny_Slice (thn (hl pins s1 σ H1 _ I1 q1) λvl s2 ⟨l,H2,I2,pl,q2⟩=>thn (hu pins s2 σ H2 _ I2 q2) λvu s3 ⟨u,H3,I3,pu,q3⟩=>?_);rw[evalPart_none];refine wpAny_pure ?_;have I4:Inv X pins σ H3 { s3 with heap:=s3.heap.push { cls := .type "slice",data := .fields #[vl,vu,.none] } }:=I3.kept (t':=s3.toks) λb ob q=>ydu _ q;obtain⟨T,id,hT,ht,hg⟩:=hr pins { s3 with heap:=s3.heap.push { cls := .type "slice",data := .fields #[vl,vu,.none] } } σ H3 x v vl vu l u s3.heap.objs.size Q I4 r1 (Heap.IsSliceOf.new ..) pl pu q3;show wpAny (model X.prog X.w) X.A (subscriptTail e (.Slice lo hi none p2) v (.ref s3.heap.objs.size)) (EP X pins σ Q) X.xe { s3 with heap:=s3.heap.push { cls := .type "slice",data := .fields #[vl,vu,.none] } };exact tail_any (ops:=[.ref s3.heap.objs.size,v]) ht hT hg (by with_unfolding_all rfl)
def qkt (xs:List V)(lo hi:Option Int):List V:=(xs.drop (HT.sIx xs.length 0 lo)).take (HT.sIx xs.length xs.length hi-HT.sIx xs.length 0 lo)
theorem qfK (xs:List V)(lo hi:Option Int):(qkt xs lo hi).length<=xs.length:=by
 unfold qkt;rw[yfb,ydg];omega
def qup (K:PySem.W.Frag):V->Option Int->Option Int->Hp->VK->Prop:=λx lo hi H Q=>∃a xs,x = .ref a/\SqT K H a xs /\
 ¬(HT.sIx xs.length 0 lo=0/\HT.sIx xs.length xs.length hi=xs.length)/\∀p,H p=none->Q (.ref p) (upd H p (.tup (qkt xs lo hi)))
theorem qsp:SlR X (qup X.K):=by
 intro pins s σ H x v vl vu lo hi sl Q I rx hs pl pu h;obtain⟨a,xs,rfl,hx,hw,q⟩:=h;cases rx;obtain⟨its,r,ht,hz⟩:=I.tuple hx;have hlen:its.toArray.size=xs.length:=by rw[yfh];exact r.length.symm
 refine⟨"tuple",_,PyProof.Rows.slot_tuple_getitem.lookup,ht.typeIs,?_⟩;refine HT.getItem_tuple_cut ht hs pl pu (by rw[hlen];exact hw) ?_ (by rw[hlen];exact hz);rw[hlen];refine⟨.ref s.heap.objs.size,_,I.laid (t':=s.toks) (o := .tup (qkt xs lo hi)) (λb ob q=>ydu _ q) (yaz _) ?_,rfl,q _ (I.hok.fresh (yaz _))⟩;exact⟨ybn (qfK xs lo hi) hz,_,(r.drop (HT.sIx xs.length 0 lo)).take (HT.sIx xs.length xs.length hi-HT.sIx xs.length 0 lo),IsTup.new _ _⟩
end
end L2
namespace L2
open PySem PySem.Spec PyProof.Rows
def ixN (n:Nat)(i:Int):Option Nat:=if 0<=i then (if i<n then some i.toNat else none) else if -(n:Int)<=i then some (i+n).toNat else none
def atI {α:Type}(xs:List α)(i:Int):Option α:=(ixN xs.length i).bind λj=>xs[j]?
theorem qk9 {n:Nat}{i:Int}{j:Nat}(h:ixN n i=some j):seqIndex? i n=some j/\j<n/\-(n:Int)<=i/\i<n:=by
 unfold ixN at h;by_cases h0:0<=i
 .rw[if_pos h0] at h
  by_cases h1:i<n
  .rw[if_pos h1] at h
   have e:i.toNat=j:=Option.some.inj h;exact⟨by rw[seqIndex_of h0 h1,e],by omega,by omega,h1⟩
  .rw[if_neg h1] at h;cases h
 .rw[if_neg h0] at h
  by_cases h1:-(n:Int)<=i
  .rw[if_pos h1] at h
   have e:(i+n).toNat=j:=Option.some.inj h;exact⟨by rw[seqIndex_neg (by omega) h1,e],by omega,h1,by omega⟩
  .rw[if_neg h1] at h;cases h
theorem qiB {α:Type}{xs:List α}{i:Int}{v:α}(h:atI xs i=some v):∃j,seqIndex? i xs.length=some j/\xs[j]?=some v/\j<xs.length/\-(xs.length:Int)<=i/\i<xs.length:=by
 unfold atI at h;cases e:ixN xs.length i with
 | none=>rw[e] at h;cases h
 | some j =>
  rw[e] at h;obtain⟨h1,h2,h3,h4⟩:=qk9 e;exact⟨j,h1,h,h2,h3,h4⟩
theorem qaR {α:Type}{xs:List α}{j:Nat}{v:α}(h:xs[j]?=some v):atI xs (j:Int)=some v:=by
 have hj:j<xs.length:=(ycm.mp h).1
 have e:ixN xs.length (j:Int)=some j:=by
  unfold ixN;rw[if_pos (by omega),if_pos (by omega)];simp
 unfold atI;rw[e];exact h
def qp0 (b:Expr):Prop:=∀o i,subscripted b false o i=operate [o,i] (getItem o i)
def IxR (X:Cx)(r:R2):Prop :=
 ∀(value slice:Expr) (pins:List (Addr×Obj)) (s:Shared) (σ:St) (H:Hp) (x y:V) (v u:Value) (Q:VK),Inv X pins σ H s->qbc x v->qbc y u->r x y H Q ->
  subscripted slice false v u=operate [v,u] (getItem v u)->wpAny (model X.prog X.w) X.A (subscriptTail value slice v u) (EP X pins σ Q) X.xe s
def MtR (X:Cx)(id:String)(r:V->List V->Hp->VK->Prop):Prop :=
 ∀(pins:List (Addr×Obj)) (s:Shared) (σ:St) (H:Hp) (x:V) (xs:List V) (v:Value) (us:List Value) (Q:VK),Inv X pins σ H s->qbc x v->qaN xs us->r x xs H Q ->
  wpAny (model X.prog X.w) X.A (call (.builtin id) (v::us)) (EP X pins σ Q) X.xe s
section
variable {X:Cx}{a b:Expr}{ta tb:TE}{pos:Pos}
theorem IxR.or {r r':R2}(h:IxR X r)(h':IxR X r'):IxR X (λx y H Q=>r x y H Q\/r' x y H Q):=by
 intro value slice pins s σ H x y v u Q I rx ry q hs;rcases q with q | q
 .exact h value slice pins s σ H x y v u Q I rx ry q hs
 .exact h' value slice pins s σ H x y v u Q I rx ry q hs
theorem qaw {r:R2}(hr:IxR X r)(ha:PE X a ta)(hb:PE X b tb)(hs:qp0 b):PE X (.Subscript a b pos) (tOp r ta tb):=by
 intro pins s σ H Q I h;exact Subscript_ (qtx ha hb I h λv u s2 x y H2 I2 rx ry q=>hr a b pins s2 σ H2 x y v u Q I2 rx ry q (hs _ _))
def quq (K:PySem.W.Frag):R2:=λx y H Q=>∃p xs i v,x = .ref p/\y = .int i/\SqL K H p xs/\atI xs i=some v/\Q v H
def quG (K:PySem.W.Frag):R2:=λx y H Q=>∃p xs i v,x = .ref p/\y = .int i/\SqT K H p xs/\atI xs i=some v/\Q v H
def quu:R2:=λx y H Q=>∃z i c,x = .str z/\y = .int i/\z.length<=sizeLine/\atI z.cps.toList i=some c/\Q (.str ⟨#[c]⟩) H
theorem qpQ:IxR X (quq X.K):=by
 intro value slice pins s σ H x y v u Q I rx ry h hs;obtain⟨p,xs,i,z,rfl,rfl,hq,he,q⟩:=h;cases rx;obtain⟨t,rfl⟩:=ry;obtain⟨its,r,pl,hz⟩:=I.list hq;obtain⟨j,h1,h2,h3,h4,h5⟩:=qiB he;obtain⟨w,ew,rw'⟩:=r.get h2;have hl:=r.length;have hn:=qgl;have fin:EP X pins σ Q w s:=⟨z,H,I,rw',q⟩;by_cases h0:0<=i
 .have hj:i.toNat=j:=by
   rw[seqIndex_of h0 h5] at h1;exact Option.some.inj h1
  exact item_listR pl.isList h0 (by omega) (by rw[hj];simpa using ew) fin hs
 .have hj:(i+(its.toArray.size:Int)).toNat=j:=by
   rw[seqIndex_neg (by omega) h4] at h1;rw[yfh,<-hl];exact Option.some.inj h1
  exact subscriptTail_builtinR (x:=w) pl.isList.typeIs slot_list_getitem.lookup
   (wpAny_getItem_list_neg (Q:=λr s'=>r=w/\EP X pins σ Q r s') pl.isList (by omega) (by rw[yfh]<;>omega) (by omega) (by rw[hj];simpa using ew) ⟨rfl,fin⟩) hs
theorem qs8:IxR X (quG X.K):=by
 intro value slice pins s σ H x y v u Q I rx ry h hs;obtain⟨p,xs,i,z,rfl,rfl,hq,he,q⟩:=h;cases rx;obtain⟨t,rfl⟩:=ry;obtain⟨its,r,pl,hz⟩:=I.tuple hq;obtain⟨j,h1,h2,h3,h4,h5⟩:=qiB he;obtain⟨w,ew,rw'⟩:=r.get h2;have hl:=r.length;have hn:=qgl;have fin:EP X pins σ Q w s:=⟨z,H,I,rw',q⟩
 exact subscriptTail_builtinR (x:=w) pl.typeIs slot_tuple_getitem.lookup
  (getItem_tuple (j:=j) (Q:=λr s'=>r=w/\EP X pins σ Q r s') pl (by omega) (by omega) (by rw[yfh,<-hl];exact h1) (by simpa using ew) ⟨rfl,fin⟩) hs
theorem qsE:IxR X quu:=by
 intro value slice pins s σ H x y v u Q I rx ry h hs;obtain⟨z,i,c,rfl,rfl,hz,he,q⟩:=h;obtain⟨t,rfl⟩:=rx;obtain⟨t',rfl⟩:=ry;obtain⟨j,h1,h2,h3,h4,h5⟩:=qiB he;have hl:z.cps.toList.length=z.length:=by simp[Str.length]
 rw[hl] at h1 h4 h5;have hn:=qgl
 exact tail_any (typeIs_str s z t) slot_str_getitem.lookup (getItem_str (c:=c) (by
  have e1:decide (i < -(2^63:Int))=false:=decide_eq_false (by omega);have e2:decide (i≥2^63)=false:=decide_eq_false (by omega);rw[e1,e2,yel]) (by rw[h1];simpa using h2) ⟨.str ⟨#[c]⟩,H,I.tok _,⟨_,rfl⟩,q⟩) hs
def rIx (K:PySem.W.Frag):R2:=λx y H Q=>quq K x y H Q\/quG K x y H Q\/quu x y H Q
theorem qrY:IxR X (rIx X.K):=qpQ.or (qs8.or qsE)
theorem qj4 (its:List Value)(n j:Nat)(u:Value):Obj.mapSeq (·.setIfInBounds j u) { cls := .type "list",data := .seq its.toArray n }={ cls := .type "list",data := .seq (its.set j u).toArray n }:=by
 simp[Obj.mapSeq]
theorem Inv.lst {pins:List (Addr×Obj)}{σ:St}{H:Hp}{s:Shared}{p:Addr}{xs:List V}(I:Inv X pins σ H s)(h:H p=some (.lst xs)) :
 ∃(its:List Value) (n:Nat),qaN xs its/\s.heap.get? p=some { cls := .type "list",data := .seq its.toArray n }/\xs.length<=sizeLine:=by
 obtain⟨z,its,n,r,e⟩:=I.hok p _ h;exact⟨its,n,r,e,z⟩
theorem Inv.lstUpd {pins:List (Addr×Obj)}{σ:St}{H:Hp}{s:Shared}{p:Addr}{xs ys:List V}{its its':List Value}{n n':Nat}{f:Obj->Obj}(I:Inv X pins σ H s)(h:H p=some (.lst xs))
 (ho:s.heap.get? p=some { cls := .type "list",data := .seq its.toArray n })(hf:f { cls := .type "list",data := .seq its.toArray n }={ cls := .type "list",data := .seq its'.toArray n' })(r:qaN ys its')(hz:ys.length<=sizeLine)(t:Nat) :
 Inv X pins σ (upd H p (.lst ys)) { s with heap:=s.heap.update p f,toks:=t }:=by
 have e:(s.heap.update p f).get? p=some { cls := .type "list",data := .seq its'.toArray n' }:=by
  rw[ydr f ho (by rw[hf]<;>rfl),hf]
 refine I.write (x:=p) (e:=p) (by rw[h];trivial) (.inl rfl) (λb u hb q=>(yeg _ _ (Ne.symm hb)).trans q) ⟨_,e⟩ ?_;exact⟨hz,its',n',r,e⟩
def qtP:V->V->V->Hp->(Hp->Prop)->Prop:=λo i v H Q=>∃p xs k j,o = .ref p/\i = .int k/\H p=some (.lst xs)/\ixN xs.length k=some j/\Q (upd H p (.lst (xs.set j v)))
theorem qnI:quz X qtP:=by
 intro pins s σ H o i v ov iv u Q I ro ri rv h;obtain⟨p,xs,k,j,rfl,rfl,hp,hj,q⟩:=h;cases ro;obtain⟨t,rfl⟩:=ri;obtain⟨its,n,r,ho,hz⟩:=I.lst hp;obtain⟨h1,h2,h3,h4⟩:=qk9 hj;have hl:=r.length;have hn:=qgl
 have I':Inv X pins σ (upd H p (.lst (xs.set j v))) { s with heap:=s.heap.update p (Obj.mapSeq (·.setIfInBounds j u)) } :=
  I.lstUpd hp ho (qj4 its n j u) (r.set rv j) (by rw[yfj];exact hz) s.toks
 by_cases h0:0<=k
 .have hk:k.toNat=j:=by
   rw[seqIndex_of h0 h4] at h1;exact Option.some.inj h1
  exact PySem.W.ki_setAt ho h0 (by omega) (by rw[yfh,<-hl];exact h4) (by rw[hk];exact⟨_,I',q⟩)
 .have hk:(k+(its.toArray.size:Int)).toNat=j:=by
   rw[seqIndex_neg (by omega) h3] at h1;rw[yfh,<-hl];exact Option.some.inj h1
  exact PySem.W.ki_setBack ho (by omega) (by rw[yfh,<-hl];exact h3) (by omega) (by rw[hk];exact⟨_,I',q⟩)
theorem qhG (lo hi:Option Int)(n:Nat):(sliceBounds lo hi none n).1=((HT.sIx n 0 lo:Nat):Int)/\(sliceBounds lo hi none n).2.1=((HT.sIx n n hi:Nat):Int)/\(sliceBounds lo hi none n).2.2=1:=by
 refine⟨?_,?_,rfl⟩
 .cases lo with
  | none=>simp[sliceBounds,HT.sIx]
  | some i =>
   simp only[sliceBounds,HT.sIx,Option.getD_none,show(1:Int)>0 by decide,if_true];by_cases h:i<0
   .simp only[h,if_true]<;>omega
   .simp only[h,if_false]<;>omega
 .cases hi with
  | none=>simp[sliceBounds,HT.sIx]
  | some i =>
   simp only[sliceBounds,HT.sIx,Option.getD_none,show(1:Int)>0 by decide,if_true];by_cases h:i<0
   .simp only[h,if_true]<;>omega
   .simp only[h,if_false]<;>omega
theorem qgI (its:List Value)(lo hi:Option Int):slicePick its.toArray lo hi none=((its.drop (HT.sIx its.length 0 lo)).take (HT.sIx its.length its.length hi-HT.sIx its.length 0 lo)).toArray:=by
 obtain⟨h1,h2,h3⟩:=qhG lo hi its.toArray.size;unfold slicePick;rw[h1,h2,h3];simp only[sliceRange_one,pick_run,yfh]<;>rfl
def quC (K:PySem.W.Frag):V->Option Int->Option Int->Hp->VK->Prop:=λx lo hi H Q=>∃a xs,x = .ref a/\SqL K H a xs/\∀p,H p=none->Q (.ref p) (upd H p (.lst (qkt xs lo hi)))
theorem qqU:SlR X (quC X.K):=by
 intro pins s σ H x v vl vu lo hi sl Q I rx hs pl pu h;obtain⟨a,xs,rfl,hx,q⟩:=h;cases rx;obtain⟨its,r,ht,hz⟩:=I.list hx;have hlen:=r.length;refine⟨"list",_,slot_list_getitem.lookup,ht.isList.typeIs,?_⟩;refine wpAny_getItem_list_slice ht.isList hs pl pu .none (by simp) ?_ (by rw[yfh]<;>omega);rw[qgI,<-hlen];refine⟨.ref s.heap.objs.size,_,I.laid (t':=s.toks) (o := .lst (qkt xs lo hi)) (λb ob q=>ydu _ q) (yaz _) ?_,rfl,q _ (I.hok.fresh (yaz _))⟩;exact⟨ybn (qfK xs lo hi) hz,_,0,(r.drop (HT.sIx xs.length 0 lo)).take (HT.sIx xs.length xs.length hi-HT.sIx xs.length 0 lo),ydt _ rfl⟩
def qbB:V->Bool
 | .non=>true
 | .bl _=>true
 | .int _=>true
 | .str _=>true
 | _=>false
def eqV:V->V->Bool
 | .non,.non=>true
 | .bl a,.bl b=>a==b
 | .bl a,.int b=>(if a then 1 else 0)==b
 | .int a,.bl b=>a==(if b then 1 else 0)
 | .int a,.int b=>a==b
 | .str a,.str b=>a==b
 | _,_=>false
theorem qo0 {A:Around}{s:Shared}{y x:V}{u v:Value}(ry:qbc y u)(rx:qbc x v)(fy:qbB y=true)(fx:qbB x=true):SeqAt.EqAt A s u v (eqV y x):=by
 cases y with
 | non =>
  cases ry;cases x with
  | non=>cases rx;exact SeqAt.EqAt.same _
  | bl b=>cases rx;exact SeqAt.EqAt.none_bool b
  | int b=>obtain⟨t,rfl⟩:=rx;exact SeqAt.EqAt.none_int b t
  | str b=>obtain⟨t,rfl⟩:=rx;exact SeqAt.EqAt.none_str b t
  | _=>exact absurd (show false=true from fx) yet
 | bl a =>
  cases ry;cases x with
  | non=>cases rx;exact SeqAt.EqAt.bool_none a
  | bl b=>cases rx;exact SeqAt.EqAt.bool_bool a b
  | int b=>obtain⟨t,rfl⟩:=rx;exact SeqAt.EqAt.bool_int a b t
  | str b=>obtain⟨t,rfl⟩:=rx;exact SeqAt.EqAt.bool_str a b t
  | _=>exact absurd (show false=true from fx) yet
 | int a =>
  obtain⟨t',rfl⟩:=ry;cases x with
  | non=>cases rx;exact SeqAt.EqAt.int_none a t'
  | bl b=>cases rx;exact SeqAt.EqAt.int_bool a t' b
  | int b=>obtain⟨t,rfl⟩:=rx;exact SeqAt.EqAt.int_int a t' b t
  | str b=>obtain⟨t,rfl⟩:=rx;exact SeqAt.EqAt.int_str a t' b t
  | _=>exact absurd (show false=true from fx) yet
 | str a =>
  obtain⟨t',rfl⟩:=ry;cases x with
  | non=>cases rx;exact SeqAt.EqAt.str_none a t'
  | bl b=>cases rx;exact SeqAt.EqAt.str_bool a t' b
  | int b=>obtain⟨t,rfl⟩:=rx;exact SeqAt.EqAt.str_int a t' b t
  | str b=>obtain⟨t,rfl⟩:=rx;exact SeqAt.EqAt.str_str a t' b t
  | _=>exact absurd (show false=true from fx) yet
 | _=>exact absurd (show false=true from fy) yet
def eqU (x:V)(u:Value):Bool:=match u with
 | .none=>eqV .non x
 | .bool b=>eqV (.bl b) x
 | .int i _=>eqV (.int i) x
 | .str z _=>eqV (.str z) x
 | _=>false
theorem qoZ {x y:V}{u:Value}(r:qbc y u)(f:qbB y=true):eqU x u=eqV y x:=by
 cases y with
 | non=>cases r;rfl
 | bl b=>cases r;rfl
 | int i=>obtain⟨t,rfl⟩:=r;rfl
 | str z=>obtain⟨t,rfl⟩:=r;rfl
 | _=>exact absurd (show false=true from f) yet
theorem qfP {x:V}:∀{xs:List V}{us:List Value},qaN xs us->xs.all qbB=true->us.any (eqU x)=xs.any λy=>eqV y x
 | _,_,.nil,_=>rfl
 | y::xs,u::us,.cons r t,f=>by
  rw[List.all_cons,yab] at f;rw[yfk,yfk,qoZ r f.1,qfP t f.2]
theorem qd0 {A:Around}{s:Shared}{x:V}{v:Value}(rx:qbc x v)(fx:qbB x=true):∀{xs:List V}{us:List Value},qaN xs us->xs.all qbB=true->∀u∈us,SeqAt.EqAt A s u v (eqU x u)
 | _,_,.nil,_=>λu hu=>by cases hu
 | y::xs,u::us,.cons r t,f=>λu' hu=>by
  rw[List.all_cons,yab] at f;rcases ybf.mp hu with rfl | hu
  .rw[qoZ r f.1];exact qo0 r rx f.1 fx
  .exact qd0 rx fx t f.2 u' hu
def inV (x:V)(xs:List V):Bool:=xs.any λy=>eqV y x
def rIn (K:PySem.W.Frag)(neg:Bool):R2:=λx y H Q=>∃p xs,y = .ref p/\(SqL K H p xs\/SqT K H p xs)/\qbB x=true/\xs.all qbB=true/\Q (.bl (if neg then !inV x xs else inV x xs)) H
theorem ql2:OpR X (compareOp .In) (rIn X.K false):=by
 intro pins s σ H x y v u Q I rx ry h;obtain⟨p,xs,rfl,hq,fx,fs,q⟩:=h;cases ry;rcases hq with hq | hq
 .obtain⟨its,r,pl,hz⟩:=I.list hq
  refine SeqAt.in_listAt (eqU x) pl.isList (λw hw=>qd0 rx fx r fs w (by simpa using hw)) ⟨.bl _,H,I,rfl,?_⟩;rw[show its.toArray.any (eqU x)=its.any (eqU x) by simp,qfP r fs];exact q
 .obtain⟨its,r,pl,hz⟩:=I.tuple hq
  refine SeqAt.in_tupleAt (eqU x) pl (λw hw=>qd0 rx fx r fs w (by simpa using hw)) ⟨.bl _,H,I,rfl,?_⟩;rw[show its.toArray.any (eqU x)=its.any (eqU x) by simp,qfP r fs];exact q
theorem qid:OpR X (compareOp .NotIn) (rIn X.K true):=by
 intro pins s σ H x y v u Q I rx ry h;obtain⟨p,xs,rfl,hq,fx,fs,q⟩:=h;cases ry;rcases hq with hq | hq
 .obtain⟨its,r,pl,hz⟩:=I.list hq
  refine SeqAt.notIn_listAt (eqU x) pl.isList (λw hw=>qd0 rx fx r fs w (by simpa using hw)) ⟨.bl _,H,I,rfl,?_⟩;rw[show its.toArray.any (eqU x)=its.any (eqU x) by simp,qfP r fs];exact q
 .obtain⟨its,r,pl,hz⟩:=I.tuple hq
  refine SeqAt.notIn_tupleAt (eqU x) pl (λw hw=>qd0 rx fx r fs w (by simpa using hw)) ⟨.bl _,H,I,rfl,?_⟩;rw[show its.toArray.any (eqU x)=its.any (eqU x) by simp,qfP r fs];exact q
theorem qia:qcl X (.builtin "len") (λxs H Q=>∃p ys,xs=[.ref p]/\(SqL X.K H p ys\/SqT X.K H p ys)/\Q (.int ys.length) H):=by
 intro pins s σ H xs us Q I r h;obtain⟨p,ys,rfl,hq,q⟩:=h;obtain⟨u,rfl,rx⟩:=qcz r;cases rx;have hn:=qgl;rcases hq with hq | hq
 .obtain⟨its,r',pl,hz⟩:=I.list hq
  have hlen:=r'.length;exact Calls.call_len_list pl.isList (by simp only[yfh]<;>omega) ⟨.int ys.length,H,I.tok _,⟨s.toks+1,by rw[yfh,hlen]⟩,q⟩
 .obtain⟨its,r',pl,hz⟩:=I.tuple hq
  have hlen:=r'.length;exact len_tuple pl (by simp only[yfh]<;>omega) ⟨.int ys.length,H,I.tok _,⟨s.toks+1,by rw[yfh,hlen]⟩,q⟩
theorem qhy:qcl X (.builtin "len") (λxs H Q=>∃z,xs=[.str z]/\z.length<=sizeLine/\Q (.int z.length) H):=by
 intro pins s σ H xs us Q I r h;obtain⟨z,rfl,hz,q⟩:=h;obtain⟨u,rfl,t,rfl⟩:=qcz r;have hn:=qgl;exact len_str (by omega) ⟨.int z.length,H,I.tok _,⟨_,rfl⟩,q⟩
def tyV (K:PySem.W.Frag)(T:String)(x:V)(H:Hp):Prop:=match x with
 | .str _=>T = "str"
 | .int _=>T = "int"
 | .ref p=>(T = "list" /\ ∃xs,SqL K H p xs)\/(T = "tuple" /\ ∃o,K.lookup p=some o/\o.cls = .type "tuple" /\ o.dict=none) \/
  (T = "dict" /\ ((∃kvs,H p=some (.dK kvs))\/∃kvs,H p=some (.dT kvs)))\/(T = "set" /\ ∃S n,H p=some (.set S n))
 | _=>False
theorem qpx {pins:List (Addr×Obj)}{σ:St}{H:Hp}{s:Shared}{T:String}{x:V}{v:Value}(I:Inv X pins σ H s)(r:qbc x v)(ty:tyV X.K T x H) :
 s.TypeIs v T/\∀a,v = .ref a->∃ob,s.heap.get? a=some ob/\ob.dict=none:=by
 cases x with
 | str z =>
  obtain⟨t,rfl⟩:=r;cases(show T = "str" from ty);exact⟨typeIs_str s z t,λ_ e=>nomatch e⟩
 | int i =>
  obtain⟨t,rfl⟩:=r;cases(show T = "int" from ty);exact⟨typeIs_int s i t,λ_ e=>nomatch e⟩
 | ref p =>
  cases r;rcases ty with⟨rfl,xs,hq⟩ | ⟨rfl,o,hk,hc,hd⟩ | ⟨rfl,hk⟩ | ⟨rfl,S,n,hk⟩
  .obtain⟨its,_,pl,_⟩:=I.list hq
   refine⟨pl.isList.typeIs,λa e=>?_⟩;cases e;obtain⟨o,n,e,c,hd,_⟩:=pl;exact⟨o,e,hd⟩
  .refine⟨⟨o,I.kIn p o hk,hc⟩,λa e=>?_⟩
   cases e;exact⟨o,I.kIn _ o hk,hd⟩
  .have z:∃o,s.heap.get? p=some o/\o.ExactDict:=by
    rcases hk with⟨kvs,hk⟩ | ⟨kvs,hk⟩
    .obtain⟨_,_,_,_,o,_,_,e,ex,_⟩:=I.hok p _ hk
     exact⟨o,e,ex⟩
    .obtain⟨_,_,_,_,o,_,_,e,ex,_⟩:=I.hok p _ hk
     exact⟨o,e,ex⟩
   obtain⟨o,e,ex⟩:=z;refine⟨⟨o,e,ex.1⟩,λa e2=>?_⟩;cases e2;exact⟨o,e,ex.2.1⟩
  .obtain⟨o,_,_,_,e,ex,_⟩:=I.hok p _ hk
   refine⟨⟨o,e,ex.1⟩,λa e2=>?_⟩;cases e2;exact⟨o,e,ex.2.1⟩
 | _=>exact False.elim ty
def quH (K:PySem.W.Frag)(T:String)(r:V->List V->Hp->VK->Prop)(to:TE):TE:=λσ H Q=>to σ H λx H1=>tyV K T x H1/\r x [] H1 Q
def tBM (K:PySem.W.Frag)(T:String)(r:V->List V->Hp->VK->Prop)(to:TE)(t:TA):TE:=λσ H Q=>to σ H λx H1=>tyV K T x H1/\t σ H1 λxs H2=>r x xs H2 Q
variable {o e:Expr}{es:List Expr}{to:TE}{t:TA}{name:Str}{apos cpos:Pos}{T id:String}{r:V->List V->Hp->VK->Prop}
theorem qrR (pa:PlainAttrs T)(slot:Slot T name id)(hty:typeOf (.builtin id)=pure (.type "method_descriptor"))(hm:MtR X id r)(ho:PE X o to)
 (hbase:attributeBase o name X.env (eval o X.env)=eval o X.env:=by rfl)(hline:(apos.endLine==cpos.line)=true:=by rfl):PE X (.Call (.Attribute o name apos) [] [] cpos) (quH X.K T r to):=by
 intro pins s σ H Q I h;refine wpAny_Call_method0_late hbase hline (thn (ho pins s σ H _ I h) λv s1 ⟨x,H1,I1,r1,ty,q1⟩=>?_);obtain⟨h1,h2⟩:=qpx I1 r1 ty;exact⟨T,id,pa,slot,hty,h1,h2,Calls.callWith_builtin rfl (PySem.evalArgs_none (hm pins s1 σ H1 x [] v [] Q I1 r1 .nil q1))⟩
theorem qbj (pa:PlainAttrs T)(slot:Slot T name id)(hty:typeOf (.builtin id)=pure (.type "method_descriptor"))(hm:MtR X id r)(ho:PE X o to)(ha:PA X (e::es) t)
 (hbase:attributeBase o name X.env (eval o X.env)=eval o X.env:=by rfl)
 (hfew:((backTo cpos (starEach (e::es) X.env)).all (λx=>!x.1)&&(backToKw cpos (keywordEach [] X.env)).all (λx=>x.1.isSome)
  && decide ((e::es).length+([]:List Keyword).length+(if ([]:List Keyword).isEmpty then 0 else 1)<30))=true:=by rfl)
 (hline:(apos.endLine==cpos.line)=true:=by rfl)(hs:starEach (e::es) X.env=(false,eval e X.env)::starEach es X.env:=by rfl)(hplain:(backTo cpos (starEach es X.env)).any (·.1)=false:=by rfl) :
 PE X (.Call (.Attribute o name apos) (e::es) [] cpos) (tBM X.K T r to t):=by
 intro pins s σ H Q I h;refine wpAny_Call_method_late hbase hfew hline rfl (thn (ho pins s σ H _ I h) λv s1 ⟨x,H1,I1,r1,ty,q1⟩=>?_);obtain⟨h1,h2⟩:=qpx I1 r1 ty;refine⟨T,id,pa,slot,hty,h1,h2,?_⟩;have hA:=ha cpos pins s1 σ H1 _ I1 q1;rw[hs] at hA⊢;refine Calls.callWith_builtin (by show(false||(backTo cpos (starEach es X.env)).any (·.1))=false;rw[hplain]<;>rfl) (Calls.evalArgs_plain ?_);exact thn hA λus s2 ⟨vs,H2,I2,r2,q2⟩=>hm pins s2 σ H2 x vs v us Q I2 r1 r2 q2
end
end L2
namespace L2
open PySem PySem.Spec PyProof.Rows
def MtM (X:Cx)(id:String)(r:V->List V->Hp->VK->Prop):Prop :=
 ∀(pins:List (Addr×Obj)) (s:Shared) (σ:St) (H:Hp) (x:V) (xs:List V) (v:Value) (us:List Value) (Q:VK),Inv X pins σ H s->qbc x v->qaN xs us->r x xs H Q ->
  wpAny (model X.prog X.w) X.A (call (.builtin id) (v::us)) (EP X pins σ Q) X.xe s
theorem qaN.one:∀{x:V}{us:List Value},qaN [x] us->∃u,us=[u]/\qbc x u
 | _,_,.cons r .nil=>⟨_,rfl,r⟩
theorem qaN.rep {xs:List V}{us:List Value}(h:qaN xs us):∀k:Nat,qaN (List.replicate k xs).flatten (List.replicate k us).flatten
 | 0 => .nil
 | k+1=>by
  rw[yfl,yfl,yfm,yfm];exact qaN.append h (qaN.rep h k)
theorem qio (its:List Value):∀(k:Nat) (acc:List Value),
 List.foldl (λx1 x2=>x1++x2) acc.toArray (List.replicate k its.toArray)=(acc++(List.replicate k its).flatten).toArray
 | 0,acc=>by simp
 | k+1,acc=>by
  have e:acc.toArray++its.toArray=(acc++its).toArray:=by simp
  have e2:(acc++its)++(List.replicate k its).flatten=acc++(List.replicate (k+1) its).flatten:=by
   rw[yfl,yfm,ydk]
  rw[<-e2,<-qio its k (acc++its),<-e,yfl,ybm]
section
variable {X:Cx}{pins:List (Addr×Obj)}{σ:St}{H:Hp}{s:Shared}{l b:Addr}{xs ys zs:List V}
theorem Inv.lset {its its':List Value}{n:Nat}{f:Array Value->Array Value}{t':Nat}(I:Inv X pins σ H s)(hH:H l=some (.lst xs))
 (e:s.heap.get? l=some { cls := .type "list",data := .seq its.toArray n })(hf:f its.toArray=its'.toArray)(hv:qaN ys its')(hz:ys.length<=sizeLine) :
 Inv X pins σ (upd H l (.lst ys)) { s with heap:=s.heap.update l (Obj.mapSeq f),toks:=t' }:=by
 have q:=PySem.IsL.update e f;rw[hf] at q;refine I.write (x:=l) (e:=l) (by rw[hH];exact trivial) (.inl rfl) (λb' u hb hu=>(yeg s.heap (Obj.mapSeq f) (Ne.symm hb)).trans hu) ⟨_,q⟩ ?_;exact⟨hz,its',_,hv,q⟩
theorem Inv.lnew {its:List Value}{t':Nat}(I:Inv X pins σ H s)(hv:qaN ys its)(hz:ys.length<=sizeLine) :
 Inv X pins σ (upd H s.heap.objs.size (.lst ys)) { s with heap:=s.heap.push { cls := .type "list",data := .seq its.toArray },toks:=t' } :=
 I.laid (λ_ _ q=>ydu _ q) (yaz _) ⟨hz,its,0,hv,ydt _ rfl⟩
theorem Inv.fresh (I:Inv X pins σ H s):H s.heap.objs.size=none:=I.hok.fresh (yaz _)
theorem Inv.lstM (I:Inv X pins σ H s)(hH:H l=some (.lst xs)):xs.length<=sizeLine/\∃(its:List Value) (n:Nat),qaN xs its/\xs.length=its.length/\s.heap.get? l=some { cls := .type "list",data := .seq its.toArray n }:=by
 obtain⟨z,its,n,r,e⟩:=I.hok l _ hH;exact⟨z,its,n,r,r.length,e⟩
theorem qj0 {n:Nat}(h:n<=sizeLine):Builtin.List.listTooLong n=false:=by
 unfold Builtin.List.listTooLong;exact decide_eq_false (by omega)
end
section
variable {X:Cx}
def qmj:V->List V->Hp->VK->Prop:=λx vs H Q=>∃l xs y,x = .ref l/\vs=[y]/\H l=some (.lst xs)/\xs.length<sizeLine/\Q .non (upd H l (.lst (xs++[y])))
theorem qbI:MtM X "list.append" qmj:=by
 intro pins s σ H x vs v us Q I rx rv h;obtain⟨l,xs,y,rfl,rfl,hH,hz,q⟩:=h;cases rx;obtain⟨u,rfl,ru⟩:=rv.one;obtain⟨z,its,n,r,hl,e⟩:=I.lstM hH;refine call_meets F.slot_list_append ⟨_,e,rfl⟩ F.entry_list_append (F.args_list_append_2 _ _) (PySem.list_append l its.toArray n u (by rw[yfh];omega)) ⟨e,?_⟩;refine⟨.non,_,I.lset (its':=its++[u]) hH e (by simp) (r.append (.cons ru .nil)) ?_,rfl,q⟩;rw[ydq,yfn];omega
def qqO:V->List V->Hp->VK->Prop:=λx vs H Q=>∃l b xs zs,x = .ref l/\vs=[.ref b]/\H l=some (.lst xs)/\H b=some (.lst zs)/\xs.length+zs.length<=sizeLine/\Q .non (upd H l (.lst (xs++zs)))
theorem qmW:MtM X "list.extend" qqO:=by
 intro pins s σ H x vs v us Q I rx rv h;obtain⟨l,b,xs,zs,rfl,rfl,hH,hB,hz,q⟩:=h;cases rx;obtain⟨u,rfl,ru⟩:=rv.one;cases ru;obtain⟨z,its,n,r,hl,e⟩:=I.lstM hH;obtain⟨z2,its2,n2,r2,hl2,e2⟩:=I.lstM hB;have hsz:its.toArray.size+its2.toArray.size<=sizeLine:=by rw[yfh,yfh];omega
 have hlong:¬(!its.toArray.isEmpty&&Builtin.List.listTooLong (its.toArray.size+its2.toArray.size))=true:=by
  rw[qj0 hsz,Bool.and_false];exact yet
 refine call_meets F.slot_list_extend ⟨_,e,rfl⟩ F.entry_list_extend (F.args_list_extend_2 _ _)
  (AutoSeq1.list_extend_list_list_0 l its.toArray n b its2.toArray n2 hlong (by rw[yfh];omega) (by omega)) ⟨e,e2,?_⟩
 refine⟨.non,_,I.lset (its':=its++its2) hH e (by simp) (r.append r2) ?_,rfl,q⟩;rw[ydq];omega
def quZ:R2:=λx y H Q=>∃l k xs,x = .ref l/\y = .int k/\H l=some (.lst xs)/\-(2^63)<=k/\k<2^63/\xs.length*k.toNat<=sizeLine /\
 ∀p,H p=none->Q (.ref p) (upd H p (.lst (List.replicate k.toNat xs).flatten))
theorem qqs {α:Type}(xs:List α)(k:Nat):(List.replicate k xs).flatten.length=k*xs.length:=by
 induction k with
 | zero=>simp
 | succ k ih=>rw[yfl,yfm,ydq,ih,yfo,yfp]
theorem qrW:OpR X (binaryOp .Mult) quZ:=by
 intro pins s σ H x y v u Q I rx ry h;obtain⟨l,k,xs,rfl,rfl,hH,h1,h2,hz,q⟩:=h;cases rx;obtain⟨t,rfl⟩:=ry;obtain⟨z,its,n,r,hl,e⟩:=I.lstM hH;have hlen:its.toArray.size*k.toNat<=sizeLine:=by rw[yfh,<-hl];exact hz
 have hcap:¬its.toArray.size*k.toNat>(2^63-1)/8:=by
  have:(sizeLine:Nat)<=(2^63-1)/8:=by decide
  omega
 have hfit:¬(!Builtin.List.listFitsIndex k)=true:=by
  rw[fitsIndex_both h1 h2];exact yet
 have hlong:¬Builtin.List.listTooLong (its.toArray.size*k.toNat)=true:=by
  rw[qj0 hlen];exact yet
 have hnew:List.foldl (λx1 x2=>x1++x2) #[] (List.replicate (if its.toArray.isEmpty=true then 0 else k.toNat) its.toArray)=(List.replicate k.toNat its).flatten.toArray:=by
  have f0:∀m:Nat,List.foldl (λx1 x2=>x1++x2) #[] (List.replicate m its.toArray)=(List.replicate m its).flatten.toArray:=λm=>by
   have:=qio its m [];rw[List.nil_append] at this;exact this
  rw[f0];cases its with
  | nil=>simp
  | cons a r'=>rw[if_neg (by simp)]
 refine wpAny_binaryOp_repeat_ref (T := "list") (U := "int") (by decide) ⟨_,e,rfl⟩ (λs'=>typeIs_int s' k t) noFill_list_mul F.fills_int_mul F.slot_int_rmul repeat_list F.slot_int_index.lookup
  (call_meets F.slot_int_rmul (typeIs_int s k t) F.entry_int_rmul (F.args_int_rmul_2 _ _) (int___rmul___int_list k t l its.toArray n)
   ⟨e,rfl,⟨_,e,rfl⟩,call_meets F.slot_list_mul ⟨_,e,rfl⟩ F.entry_list_mul (F.args_list_mul_2 _ _) (AutoListH.list___mul___list_int_3 l its.toArray n k t hfit hcap hlong) ⟨e,?_⟩⟩)
 rw[hnew];exact⟨.ref _,_,I.lnew (t':=s.toks) (r.rep k.toNat) (by rw[qqs,Nat.mul_comm];exact hz),rfl,q _ I.fresh⟩
end
section
variable {prog:Program}{w:World}{A:Around}{E:Value->Shared->Prop}{s:Shared}
set_option maxRecDepth 100000 in
end
section
variable {X:Cx}
end
end L2
namespace L2
open PySem PySem.Spec PyProof.Rows
section
variable {κ:Type}[DecidableEq κ]
def qde (kvs:List (κ×V))(k:κ):Option V:=(kvs.find? λkv=>decide (kv.1=k)).map (·.2)
def qis (kvs:List (κ×V))(k:κ)(v:V):List (κ×V) :=
 if (kvs.any λkv=>decide (kv.1=k))=true then kvs.map (λkv=>if kv.1=k then (kv.1,v) else kv) else kvs++[(k,v)]
theorem qbl {p:κ×V}{r:List (κ×V)}{k:κ}(e:p.1=k):qde (p::r) k=some p.2:=by simp[qde,yce,e]
theorem qbo {p:κ×V}{r:List (κ×V)}{k:κ}(e:¬p.1=k):qde (p::r) k=qde r k:=by simp[qde,yce,e]
theorem qdG (k:κ):∀kvs:List (κ×V),(kvs.any λkv=>decide (kv.1=k))=(qde kvs k).isSome
 | []=>rfl
 | p::r=>by
  rw[yfk];by_cases e:p.1=k
  .simp only[qbl e,decide_eq_true e,Bool.true_or,yfq]
  .rw[qbo e,decide_eq_false e,Bool.false_or];exact qdG k r
theorem qjQ (k j:κ)(y:V):∀kvs:List (κ×V),qde (kvs.map λkv=>if kv.1=k then (kv.1,y) else kv) j=(qde kvs j).map λx=>if j=k then y else x
 | []=>rfl
 | p::r=>by
  have ih:=qjQ k j y r;rw[ycg];by_cases h:p.1=k
  .rw[if_pos h]
   by_cases e:p.1=j
   .rw[qbl (p:=(p.1,y)) e,qbl e,yfr,if_pos (e.symm.trans h)]
   .rw[qbo (p:=(p.1,y)) e,qbo e,ih]
  .rw[if_neg h]
   by_cases e:p.1=j
   .rw[qbl (p:=p) e,qbl e,yfr,if_neg (λz=>h (e.trans z))]
   .rw[qbo (p:=p) e,qbo e,ih]
theorem qik (k j:κ)(y:V):∀kvs:List (κ×V),qde kvs k=none->qde (kvs++[(k,y)]) j=if j=k then some y else qde kvs j
 | [],_=>by
  by_cases e:k=j
  .rw[if_pos e.symm];exact qbl (p:=(k,y)) e
  .rw[if_neg (λz=>e z.symm)];exact qbo (p:=(k,y)) e
 | p::r,hn=>by
  rw[yfs];have hk:¬p.1=k:=λz=>by rw[qbl z] at hn;cases hn
  rw[qbo hk] at hn;have ih:=qik k j y r hn;by_cases e:p.1=j
  .rw[qbl e,qbl e,if_neg (λz=>hk (e.trans z))]
  .rw[qbo e,qbo e,ih]
theorem qoK (kvs:List (κ×V))(k j:κ)(y:V):qde (qis kvs k y) j=if j=k then some y else qde kvs j:=by
 unfold qis;by_cases a:(kvs.any λkv=>decide (kv.1=k))=true
 .rw[if_pos a,qjQ]
  rw[qdG] at a;by_cases e:j=k
  .obtain⟨x,hx⟩:=yfa.mp a
   rw[if_pos e,e,hx,yfr,if_pos rfl]
  .rw[if_neg e]
   cases qde kvs j with
   | none=>rfl
   | some x=>rw[yfr,if_neg e]
 .rw[if_neg a]
  refine qik k j y kvs ?_;rw[qdG] at a;cases q:qde kvs k with
  | none=>rfl
  | some x=>rw[q] at a;exact(a rfl).elim
theorem qfV (kvs:List (κ×V))(k:κ)(v:V):(qis kvs k v).length<=kvs.length+1:=by
 unfold qis;split
 .rw[ycd];omega
 .rw[ydq,ycb,List.length_nil];omega
theorem qir.isSome_eq {o:Option V}{u:Option Value}(r:qir o u):o.isSome=u.isSome:=by
 cases o with
 | none=>cases u with
  | none=>rfl
  | some _=>exact(show False from r).elim
 | some _=>cases u with
  | none=>exact(show False from r).elim
  | some _=>rfl
theorem KV.val {kvs:List (κ×V)}{vs:List (κ×Value)}(r:KV kvs vs)(k:κ):qir (qde kvs k) (valueAt vs k):=by
 unfold KV at r
 induction r with
 | nil=>exact True.intro
 | @cons p q ps qs h t ih =>
  obtain⟨h1,h2⟩:=h;by_cases e:p.1=k
  .have e':q.1=k:=h1.symm.trans e
   have b:valueAt (q::qs) k=some q.2:=by simp[valueAt,yce,e']
   rw[qbl e,b];exact h2
  .have e':¬q.1=k:=λz=>e (h1.trans z)
   have b:valueAt (q::qs) k=valueAt qs k:=by simp[valueAt,yce,e']
   rw[qbo e,b];exact ih
theorem KV.any {kvs:List (κ×V)}{vs:List (κ×Value)}(r:KV kvs vs)(k:κ):(kvs.any λkv=>decide (kv.1=k))=vs.any λkv=>decide (kv.1=k):=by
 unfold KV at r
 induction r with
 | nil=>rfl
 | cons h t ih=>rw[yfk,yfk,ih,h.1]
theorem KV.repl {kvs:List (κ×V)}{vs:List (κ×Value)}(r:KV kvs vs)(k:κ){y:V}{u:Value}(ry:qbc y u) :
 KV (kvs.map λkv=>if kv.1=k then (kv.1,y) else kv) (vs.map λkv=>if kv.1=k then (kv.1,u) else kv):=by
 unfold KV at r⊢
 induction r with
 | nil=>exact .nil
 | @cons p q ps qs h t ih =>
  rw[ycg,ycg];refine .cons ?_ ih;obtain⟨h1,h2⟩:=h;by_cases e:p.1=k
  .rw[if_pos e,if_pos (h1.symm.trans e)];exact⟨h1,ry⟩
  .rw[if_neg e,if_neg (λz=>e (h1.trans z))];exact⟨h1,h2⟩
theorem KV.put {kvs:List (κ×V)}{vs:List (κ×Value)}(r:KV kvs vs)(k:κ){y:V}{u:Value}(ry:qbc y u):KV (qis kvs k y) (stored vs k u):=by
 unfold qis stored;rw[r.any k];by_cases e:(vs.any λkv=>decide (kv.1=k))=true
 .rw[if_pos e,if_pos e];exact r.repl k ry
 .rw[if_neg e,if_neg e];exact Paired.snoc r ⟨rfl,ry⟩
theorem KV.length {kvs:List (κ×V)}{vs:List (κ×Value)}(r:KV kvs vs):kvs.length=vs.length:=Paired.length r
end
theorem qke {P:Program}{w:World}{k:Key}{u:Value}(r:qbc (kV k) u):(qaW P w).is k u=true:=by
 cases k with
 | inl i=>obtain⟨t,e⟩:=(show ∃t,u=Value.int i t from r);subst e;exact qi6 P w i t
 | inr x=>obtain⟨t,e⟩:=(show ∃t,u=Value.str x t from r);subst e;exact qiS P w x t
theorem qhn {P:Program}{w:World}:∀{ks:List Key}{us:List Value},qaN (ks.map kV) us->ItemsAre (qaW P w) ks us
 | [],_,r=>by rw[yfi] at r;cases r;exact .nil
 | k::ks,_,r=>by
  rw[ycg] at r;cases r with
  | cons h t=>exact .cons (qke h) (qhn t)
abbrev KT (H:Hp):List (List Key×V)->List (List Key×Addr×Value)->Prop:=Paired λp q=>p.1=q.1/\H q.2.1=some (.tup (p.1.map kV))/\qbc p.2 q.2.2
theorem KT.val {H:Hp}{kvs:List (List Key×V)}{xs:List (List Key×Addr×Value)}(r:KT H kvs xs)(k:List Key):qir (qde kvs k) ((atKey xs k).map (·.2)):=by
 induction r with
 | nil=>exact True.intro
 | @cons p q ps qs h t ih =>
  obtain⟨h1,_,h2⟩:=h;by_cases e:p.1=k
  .have e':q.1=k:=h1.symm.trans e
   have b:atKey (q::qs) k=some q.2:=by simp[atKey,yce,e']
   rw[qbl e,b];exact h2
  .have e':¬q.1=k:=λz=>e (h1.trans z)
   have b:atKey (q::qs) k=atKey qs k:=by simp[atKey,yce,e']
   rw[qbo e,b];exact ih
theorem KT.repl {H:Hp}{kvs:List (List Key×V)}{xs:List (List Key×Addr×Value)}(r:KT H kvs xs)(k:List Key){y:V}{u:Value}(ry:qbc y u) :
 KT H (kvs.map λkv=>if kv.1=k then (kv.1,y) else kv) (xs.map (putAt k u)):=by
 induction r with
 | nil=>exact .nil
 | @cons p q ps qs h t ih =>
  rw[ycg,ycg];refine .cons ?_ ih;obtain⟨h1,h2,h3⟩:=h;unfold putAt;by_cases e:p.1=k
  .rw[if_pos e,if_pos (h1.symm.trans e)];exact⟨h1,h2,ry⟩
  .rw[if_neg e,if_neg (λz=>e (h1.trans z))];exact⟨h1,h2,h3⟩
theorem KT.put {H:Hp}{kvs:List (List Key×V)}{xs:List (List Key×Addr×Value)}(r:KT H kvs xs)(k:List Key){b:Addr}{y:V}{u:Value}(hb:H b=some (.tup (k.map kV)))(ry:qbc y u) :
 KT H (qis kvs k y) (storedH xs k b u):=by
 have e:(kvs.any λkv=>decide (kv.1=k))=(atKey xs k).isSome:=by
  rw[qdG,(r.val k).isSome_eq,Option.isSome_map]
 unfold qis storedH;rw[e];by_cases q:(atKey xs k).isSome=true
 .rw[if_pos q,if_pos q];exact r.repl k ry
 .rw[if_neg q,if_neg q];exact Paired.snoc r ⟨rfl,hb,ry⟩
theorem KT.keeps {H H':Hp}{kvs:List (List Key×V)}{xs:List (List Key×Addr×Value)}(r:KT H kvs xs)(ht:∀b ys,H b=some (.tup ys)->H' b=some (.tup ys)):KT H' kvs xs :=
 Paired.mapP r λ_ _ z=>⟨z.1,ht _ _ z.2.1,z.2.2⟩
section
variable {P:Program}{w:World}{H:Hp}{h:Heap}{a:Addr}
theorem qst {u:HO}(ok:HOk P w H h)(e:Rd H a u):qbu P w H h a u:=e.ok ok
theorem qoB {kvs:List (Key×V)}(ok:HOk P w H h)(e:Rd H a (.dK kvs)):kvs.length<=sizeLine/\(a==sysModules)=false/\∃vs,KV kvs vs/\h.DictOf (qaW P w) a vs :=
 show qbu P w H h a (.dK kvs) from qst ok e
theorem qtR {kvs:List (Key×V)}(ok:HOk P w H h)(e:H a=some (.dK kvs)):kvs.length<=sizeLine/\(a==sysModules)=false/\∃vs,KV kvs vs/\h.DictOf (qaW P w) a vs:=qoB ok (.inl e)
theorem qjF {ks:List Key}(ok:HOk P w H h)(e:H a=some (.tup (ks.map kV))):(tupleKind (qaW P w)).is h ks a:=by
 obtain⟨_,its,r,o,h1,h2,n,h3⟩:=(show qbu P w H h a (.tup (ks.map kV)) from ok a _ e);exact⟨o,its.toArray,n,h1,h2,h3,by simpa using qhn r⟩
theorem qoO {kvs:List (List Key×V)}(ok:HOk P w H h)(e:Rd H a (.dT kvs)):kvs.length<=sizeLine/\(a==sysModules)=false /\
 ∃xs,KT H kvs xs/\h.DictOfH (tupleKind (qaW P w)) a xs:=by
 obtain⟨z,y,xs,r,o,es,ep,h1,h2,h3,h4,h5⟩:=(show qbu P w H h a (.dT kvs) from qst ok e);refine⟨z,y,xs,r,o,es,ep,h1,h2,h3,h4,λx hx=>?_,h5⟩
 have all:∀{l:List (List Key×V)}{m:List (List Key×Addr×Value)},KT H l m->∀x∈m,(tupleKind (qaW P w)).is h x.1 x.2.1:=by
  intro l m q
  induction q with
  | nil=>intro x hx;exact nomatch hx
  | @cons p q ps qs hq t ih =>
   intro x hx;rcases ybf.mp hx with e | hx
   .subst e
    exact qjF ok (by rw[<-hq.1];exact hq.2.1)
   .exact ih x hx
 exact all r x hx
theorem qt6 {kvs:List (List Key×V)}(ok:HOk P w H h)(e:H a=some (.dT kvs)):kvs.length<=sizeLine/\(a==sysModules)=false /\
 ∃xs,KT H kvs xs/\h.DictOfH (tupleKind (qaW P w)) a xs:=qoO ok (.inl e)
end
def qmm (H:Hp)(a:Addr)(y:V)(r:Option V):Prop :=
 (∃kvs k,Rd H a (.dK kvs)/\y=kV k/\r=qde kvs k)\/∃kvs k b,Rd H a (.dT kvs)/\y = .ref b/\H b=some (.tup (k.map kV))/\r=qde kvs k
def qrq (H:Hp)(a:Addr)(y v:V)(H':Hp):Prop :=
 (∃kvs k,H a=some (.dK kvs)/\y=kV k/\kvs.length<sizeLine/\H'=upd H a (.dK (qis kvs k v))) \/
 ∃kvs k b,H a=some (.dT kvs)/\y = .ref b/\H b=some (.tup (k.map kV))/\kvs.length<sizeLine/\H'=upd H a (.dT (qis kvs k v))
theorem qmm.k {H:Hp}{a:Addr}{kvs:List (Key×V)}{k:Key}(e:H a=some (.dK kvs)):qmm H a (kV k) (qde kvs k) := .inl ⟨kvs,k,.inl e,rfl,rfl⟩
theorem qrq.k {H:Hp}{a:Addr}{kvs:List (Key×V)}{k:Key}{v:V}(e:H a=some (.dK kvs))(hl:kvs.length<sizeLine):qrq H a (kV k) v (upd H a (.dK (qis kvs k v))) := .inl ⟨kvs,k,e,rfl,hl,rfl⟩
section
variable {X:Cx}{pins:List (Addr×Obj)}{σ:St}{H:Hp}{s:Shared}{a:Addr}{y v:V}{u r:Value}{o:Option V}{A:Around}{E:Value->Shared->Prop}
theorem Inv.big (I:Inv X pins σ H s):sysModules<s.heap.objs.size:=by
 have h:mainGlobals<s.heap.objs.size:=(I.mod.glob.keeps I.bk).lt;exact ybp (by decide) h
theorem qmh {Q:Value->Shared->Prop}(hu:A.units+1<cLine)(I:Inv X pins σ H s)(g:qmm H a y (some v))(ry:qbc y u)(h:∀w' s',Inv X pins σ H s'->qbc v w'->Q w' s') :
 wpAny (model X.prog X.w) A (getItem (.ref a) u) Q E s:=by
 rcases g with⟨kvs,k,e,ey,l⟩ | ⟨kvs,k,b,e,ey,eb,l⟩
 .subst ey
  obtain⟨z,hd,vs,rel,dd⟩:=qoB I.hok e;obtain⟨w',hw,rw'⟩:=qir.some_of (v:=v) (o:=valueAt vs k) (by rw[l];exact rel.val k);exact wpAny_getItem_of (qke ry) dd.mapOf hw (h w' _ (I.tok _) rw')
 .subst ey
  cases(show u=Value.ref b from ry);obtain⟨z,hd,xs,rel,dd⟩:=qoO I.hok e;obtain⟨w',hw,rw'⟩:=qir.some_of (v:=v) (o:=(atKey xs k).map (·.2)) (by rw[l];exact rel.val k);obtain⟨p,hp,hp2⟩:=Option.map_eq_some_iff.mp hw;refine wpAny_getItem_heap (tupleKind_room_in1 hu) (qjF I.hok eb) dd hp ?_;rw[hp2];exact h w' _ (I.tok _) rw'
theorem qqQ {Q:Value->Shared->Prop}(hu:A.units+1<cLine)(I:Inv X pins σ H s)(g:qmm H a y o)(ry:qbc y u)(h:∀s',Inv X pins σ H s'->Q (.bool (!o.isSome)) s') :
 wpAny (model X.prog X.w) A (compareOp .NotIn u (.ref a)) Q E s:=by
 rcases g with⟨kvs,k,e,ey,l⟩ | ⟨kvs,k,b,e,ey,eb,l⟩
 .subst ey
  obtain⟨z,hd,vs,rel,dd⟩:=qoB I.hok e;refine wpAny_notIn_of (qke ry) hd dd.mapOf ?_;rw[<-(rel.val k).isSome_eq,<-l];exact h _ (I.tok _)
 .subst ey
  cases(show u=Value.ref b from ry);obtain⟨z,hd,xs,rel,dd⟩:=qoO I.hok e;refine wpAny_notIn_heap (tupleKind_room_in1 hu) (qjF I.hok eb) hd dd ?_;have q:=(rel.val k).isSome_eq;rw[Option.isSome_map] at q;rw[<-q,<-l];exact h _ (I.tok _)
theorem qmE {h':Heap}{t':Nat}{ob:HO}(I:Inv X pins σ H s)(mu:Mut (H a))(hs:Heap.SameBut a s.heap h')(he:∃q,h'.get? a=some q)(new:qbu X.prog X.w (upd H a ob) h' a ob) :
 Inv X pins σ (upd H a ob) { s with heap:=h',toks:=t' } :=
 I.write (x:=a) (e:=a) mu (.inl rfl) (λb q hb z=>(hs.2 b hb).trans z) he new
theorem qsS {P:Program}{w:World}{H':Hp}{h':Heap}{kvs:List (Key×V)}{vs:List (Key×Value)}(z:kvs.length<=sizeLine)(hd:(a==sysModules)=false)(rel:KV kvs vs)(dd:h'.DictOf (qaW P w) a vs) :
 qbu P w H' h' a (.dK kvs):=⟨z,hd,vs,rel,dd⟩
theorem qlI {H':Hp}{Q:Unit->Shared->Prop}(hu:A.units+1<cLine)(I:Inv X pins σ H s)(g:qrq H a y v H')(ry:qbc y u)(rv:qbc v r)(h:∀s',Inv X pins σ H' s'->Q () s') :
 wpAny (model X.prog X.w) A (setItem (.ref a) u r) Q E s:=by
 rcases g with⟨kvs,k,e,ey,l,eH⟩ | ⟨kvs,k,b,e,ey,eb,l,eH⟩
 .subst ey eH
  obtain⟨z,hd,vs,rel,dd⟩:=qtR I.hok e;have hz:vs.length<=sizeLine:=by rw[<-rel.length];exact z
  have hl:(qis kvs k v).length<=sizeLine:=by have:=qfV kvs k v;omega
  refine wpAny_setItem_pairs (hsz:=hz) (qke ry) dd λh' dd' hs=>h _ ?_;have he:∃q,h'.get? a=some q:=let ⟨q,_,_,hq,_⟩:=dd';⟨q,hq⟩;exact qmE I (by rw[e];exact True.intro) hs he (qsS hl hd (rel.put k rv) dd')
 .subst ey eH
  cases(show u=Value.ref b from ry);obtain⟨z,hd,xs,rel,dd⟩:=qt6 I.hok e;have hz:xs.length<=sizeLine:=by rw[<-Paired.length rel];exact z
  have hl:(qis kvs k v).length<=sizeLine:=by have:=qfV kvs k v;omega
  refine wpAny_setItem_heap (hsz:=hz) (tupleKind_room_in1 hu) (qjF I.hok eb) dd λh' dd' hs=>h _ ?_;obtain⟨q,es,ep,hq,h2,h3,h4,_,h5⟩:=dd';refine qmE I (by rw[e];exact True.intro) hs ⟨q,hq⟩ ⟨hl,hd,_,(rel.put k eb rv).keeps λc ys ec=>?_,q,es,ep,hq,h2,h3,h4,h5⟩;rw[qay (qtC ec e (λz=>nomatch z))];exact ec
end
section
variable {X:Cx}{pins:List (Addr×Obj)}{σ:St}{H:Hp}{s:Shared}{a:Addr}{kvs:List (Key×V)}{k:Key}{u:Value}{A:Around}{E:Value->Shared->Prop}
end
def qtN (i:Expr):Prop:=∀ov iv,subscripted i false ov iv=operate [ov,iv] (getItem ov iv)
theorem qk1 {prog:Program}{w:World}{A:Around}{E:Value->Shared->Prop}{s:Shared}{env:Env}{value slice:Expr}{pos:Pos}{T id:String}{Q:Value->Shared->Prop}
 (hl:typeLookup (.type T) "__getitem__" = pure (some (.builtin id)))(hs:qtN slice)
 (h:wpAny (model prog w) A (eval value env) (λo s₁=>wpAny (model prog w) A (eval slice env) (λi s₂=>s₂.TypeIs o T/\wpAny (model prog w) A (getItem o i) Q E s₂) E s₁) E s) :
 wpAny (model prog w) A (eval (.Subscript value slice pos) env) Q E s:=by
 refine Subscript_ (wpAny_mono h (λo s₁ h₁=>wpAny_mono h₁ (λi s₂ h₂=>?_) λ_ _ x=>x) λ_ _ x=>x);obtain⟨hT,h₂⟩:=h₂;unfold subscriptTail;refine wpAny_bind ?_;rw[getitemInPython_of_ne hT.not_modules];refine wpAny_bind (wpAny_specialOf hT hl ?_)
 have fin:wpAny (model prog w) A (subscripted slice false o i) (λr s₃=>wpAny (model prog w) A (letTemporaryGo value o r >>= λ_=>pure r) Q E s₃) E s₂:=by
  rw[hs o i];exact wpAny_operating (wpAny_mono h₂ (λr s₃ h₃=>wpAny_bind (wpAny_letTemporaryGo (wpAny_pure h₃))) λ_ _ x=>x)
 first
  | exact wpAny_pure (wpAny_bind fin)
  | exact wpAny_bind (wpAny_pure (wpAny_bind fin))
  | exact wpAny_bind fin
theorem qiF {X:Cx}{pins:List (Addr×Obj)}{σ:St}{H:Hp}{s:Shared}{a:Addr}{y:V}{o:Option V}(I:Inv X pins σ H s)(g:qmm H a y o):s.TypeIs (.ref a) "dict" := by
 rcases g with⟨kvs,k,e,_,_⟩ | ⟨kvs,k,b,e,_,_,_⟩
 .obtain⟨_,_,vs,_,dd⟩:=qoB I.hok e
  exact dd.typeIs
 .obtain⟨_,_,xs,_,dd⟩:=qoO I.hok e
  exact dd.typeIs
def qsK (td ty:TE):TE:=λσ H Q=>td σ H λx H1=>ty σ H1 λy H2=>∃a v,x = .ref a/\qmm H2 a y (some v)/\Q v H2
def quL (ty td:TE):TE:=λσ H Q=>ty σ H λy H1=>td σ H1 λx H2=>∃a o,x = .ref a/\qmm H2 a y o/\Q (.bl o.isSome) H2
def qlz (ty td:TE):TE:=λσ H Q=>ty σ H λy H1=>td σ H1 λx H2=>∃a o,x = .ref a/\qmm H2 a y o/\Q (.bl (!o.isSome)) H2
def qqb (td ty tv:TE):TS:=λD σ H=>tv σ H λv H1=>td σ H1 λx H2=>ty σ H2 λy H3=>∃a H4,x = .ref a/\qrq H3 a y v H4/\D.nx σ H4
section
variable {X:Cx}{o i e value:Expr}{pos pos' tpos:Pos}{td ty tv:TE}
theorem qqr (hu:X.A.units+1<cLine)(ho:PE X o td)(hi:PE X i ty)(hs:qtN i):PE X (.Subscript o i pos) (qsK td ty):=by
 intro pins s σ H Q I h;refine qk1 yft.lookup hs (thn (ho pins s σ H _ I h) λu s1 ⟨x,H1,I1,rx,q1⟩=>thn (hi pins s1 σ H1 _ I1 q1) λiv s2 ⟨y,H2,I2,ry,a,v,ex,g,q2⟩=>?_);subst ex;obtain rfl:u=Value.ref a:=rx;exact⟨qiF I2 g,qmh hu I2 g ry λw' s3 I3 rw'=>⟨v,H2,I3,rw',q2⟩⟩
theorem qh9 (hu:X.A.units+1<cLine)(hi:PE X i ty)(ho:PE X o td):PC X .NotIn i o (qlz ty td):=by
 intro pins s σ H Q I h;refine thn (hi pins s σ H _ I h) λiv s1 ⟨y,H1,I1,ry,q1⟩=>thn (ho pins s1 σ H1 _ I1 q1) λu s2 ⟨x,H2,I2,rx,a,ov,ex,g,q2⟩=>?_;subst ex;obtain rfl:u=Value.ref a:=rx;exact qqQ hu I2 g ry λs3 I3=>⟨.bl (!ov.isSome),H2,I3,rfl,q2⟩
theorem qpW (hu:X.A.units+1<cLine)(ho:PE X o td)(hi:PE X i ty)(hv:PE X value tv)(hs:swapsWith value (some (.Subscript o i pos')) pos.line X.env=pure false) :
 PS X (.Assign [.Subscript o i pos'] value pos) (qqb td ty tv):=by
 intro pins s σ H D I h;refine wpAny_Assign_Subscript (thn (hv pins s σ H _ I h) λr s1 ⟨v,H1,I1,rv,q1⟩=>thn (ho pins s1 σ H1 _ I1 q1) λu s2 ⟨x,H2,I2,rx,q2⟩=>thn (hi pins s2 σ H2 _ I2 q2) λiv s3 ⟨y,H3,I3,ry,a,H4,ex,g,q3⟩=>?_) hs;subst ex;obtain rfl:u=Value.ref a:=rx;exact qlI hu I3 g ry rv λs4 I4=>⟨σ,H4,I4,q3⟩
end
theorem qoH {P:Program}{w:World}{H:Hp}(h:Heap)(hb:sysModules<h.objs.size):qbu P w H (h.push { cls := .type "dict",data := .dict #[] }) h.objs.size (.dK []) :=
 ⟨ybz _,beq_eq_false_iff_ne.mpr (Ne.symm (ydx hb)),[],.nil,Heap.DictOf.new h⟩
def qpe:TE:=λ_ H Q=>∀p,H p=none->Q (.ref p) (upd H p (.dK []))
section
variable {X:Cx}{pos:Pos}
theorem qn4:PE X (.Dict [] [] pos) qpe:=λpins s σ H Q I h =>
 wpAny_Dict_empty ⟨.ref s.heap.objs.size,_,I.laid (a:=s.heap.objs.size) (o := .dK []) (t':=s.toks) (λ_ _ q=>ydu _ q) (yaz _) (qoH s.heap I.big),rfl,h _ (I.hok.fresh (yaz _))⟩
end
structure M1 (X:Cx)(o:Expr)(m:Str)(apos:Pos)(e:Expr)(cpos:Pos):Prop where
 base:attributeBase o m X.env (eval o X.env)=eval o X.env
 few:((backTo cpos (starEach [e] X.env)).all (λx=>!x.1)&&(backToKw cpos (keywordEach [] X.env)).all (λx=>x.1.isSome)
  && decide (([e]:List Expr).length+([]:List Keyword).length+(if ([]:List Keyword).isEmpty then 0 else 1)<30))=true
 line:(apos.endLine==cpos.line)=true
 trees:backTo cpos (starEach [e] X.env)=[(false,eval e X.env)]
structure M2 (X:Cx)(o:Expr)(m:Str)(apos:Pos)(e f:Expr)(cpos:Pos):Prop where
 base:attributeBase o m X.env (eval o X.env)=eval o X.env
 few:((backTo cpos (starEach [e,f] X.env)).all (λx=>!x.1)&&(backToKw cpos (keywordEach [] X.env)).all (λx=>x.1.isSome)
  && decide (([e,f]:List Expr).length+([]:List Keyword).length+(if ([]:List Keyword).isEmpty then 0 else 1)<30))=true
 line:(apos.endLine==cpos.line)=true
 trees:backTo cpos (starEach [e,f] X.env)=[(false,eval e X.env),(false,eval f X.env)]
section
variable {X:Cx}{pins:List (Addr×Obj)}{σ:St}{H:Hp}{s:Shared}{a:Addr}{y d:V}{u r:Value}{o:Option V}{A:Around}{E:Value->Shared->Prop}
end
section
variable {X:Cx}{o e f:Expr}{apos cpos:Pos}{td ty tx:TE}
end
section
variable {X:Cx}{pins:List (Addr×Obj)}{σ:St}{H:Hp}{s:Shared}{a:Addr}{kvs:List (Key×V)}{A:Around}{E:Value->Shared->Prop}
end
section
variable {X:Cx}{pins:List (Addr×Obj)}{σ:St}{H:Hp}{s:Shared}{a:Addr}{y:V}{u:Value}{A:Around}{E:Value->Shared->Prop}
end
end L2
namespace Att
open PySem PySem.W PySem.Calls PyProof.Rows
theorem qfg {P:Params}{h:Heap}:∀(ns:List Int) (vs:List Value),WellAll P h vs (ns.map WData.int)->IntsAre vs ns:=by
 intro ns
 induction ns with
 | nil =>
  intro vs w;rw[yfi] at w;cases w;exact .nil
 | cons n ns ih =>
  intro vs w;rw[ycg] at w;cases w with
  | cons a b =>
   cases a;exact .cons _ _ (ih _ b)
theorem qk8 {l:OpenLaw}{n:Nat}(hn:l.most=some n){P:Params}{h:Heap}{args:List WData}{vals:List Value}
 (hpre:l.row.toRowW.claim.pre args=true)(hwl:WellAll P h vals args) :
 ∃a vs ns,vals=[Value.ref a]/\args=[WData.list (ns.map WData.int)]/\h.get? a=some { cls := .type "list",data := .seq vs.toArray }/\IntsAre vs ns/\ns.length<=n:=by
 have hsh:WShape.hasAll [] args [.list .int]=true:=(pre_splitW hpre).1;have hc:l.pre.holds [] { args:=args }=true:=(pre_splitW hpre).2;obtain⟨d,r,rfl,h1,h2⟩:=hasAllW_cons hsh;obtain rfl:=hasAllW_nil h2;obtain⟨xs,rfl,h3⟩:=hasW_list h1;obtain⟨ns,rfl⟩:=items_int h3
 have hlen:ns.length<=n:=by
  unfold OpenLaw.pre at hc
  have h4:(WTm.not (.lt (.lit (.int (n:Int))) (.len (.arg 0)))).holds [] { args:=[.list (ns.map .int)] }=true:=by
   have h4:=(holds_andW hc).1;rw[hn] at h4;exact h4
  have h5:=condW_of h4 (w_not (w_lt w_lit (w_len_list (w_arg rfl))));rw[ycd] at h5;refine Nat.le_of_not_lt λq=>?_;have q':(n:Int)<((ns.length:Nat):Int):=by omega
  first
   | (rw[decide_eq_true q'] at h5;exact absurd h5 (by decide))
   | (simp at h5;omega)
 cases hwl with
 | cons w1 w2 =>
  cases w2;cases w1 with
  | list ho hall=>exact⟨_,_,ns,rfl,rfl,ho,qfg ns _ hall,hlen⟩
theorem qld (l:OpenLaw)(args:List WData):l.row.toRowW.claim.post args (.bool true) args=true :=
 postW_of (r:=l.row.toRowW) (X:=(true==true))
  (show WShape.has [] (.bool true) .bool=true by first | rfl | decide | simp[WShape.has,WShape.arms,WShape.armsAll])
  (show(WTm.eq .res (.lit (.bool true))).value [] { args:=args,res:=some (.bool true),after:=args }=some (.bool (true==true)) from w_eq_bool (w_res rfl) w_lit) rfl
theorem attach_call {l:OpenLaw}{n:Nat}{q:Program}{loose:List Str}{XP:(Str->Option Value)->Heap->Prop}{YP:World->Heap->Prop}{d:DefRec}
 (hn:l.most=some n)(hdf:d.params.defaults=[])
 (call:∀(w:World) (s₀ s₁:Shared) (mg mb:Str->Option Value) (fa:Addr) (o:Obj) (pm cd doc:Value) (a:Addr) (vs:List Value) (ns:List Int),
  Ground q loose [] XP w s₀ mg mb s₁.heap->YP w s₁.heap ->
  s₁.heap.get? fa=some o->o.data = .func (docDef d.name d.params d.body d.scope pm cd doc)->s₁.heap.CodeRec cd d.name->mg d.name=some (.ref fa) ->
  s₁.heap.get? a=some { cls := .type "list",data := .seq vs.toArray }->IntsAre vs ns->ns.length<=n->s₁.gens = #[] ->
  codeAny (model l.prog w) callerA (.call (.ref fa) ⟨[.ref a],[]⟩) (λr s'=>r = .ok (.ret (.bool true))/\OldK s₁.heap s'.heap/\s'.os=s₁.os/\AllBare s'.gens) s₁) :
 WalkO q loose XP YP l.row.toRowW d [] (λf vs=>PySem.call f vs):=by
 intro w s₀ s₁ mg mb G Y fa o pm cd doc dV kV ho hd hcd hD hmg hg args vals as hpre hlay hrd hwl hlo;obtain rfl:dV = .none:=Dflts.none hD hdf;obtain rfl:kV = .none:=Dflts.noKw hD;obtain⟨a,vs,ns,rfl,rfl,hobj,hints,hlen⟩:=qk8 hn hpre hwl;refine enter_call (codeAny_mono (call w s₀ s₁ mg mb fa o pm cd doc a vs ns G Y ho (fd_plain hd) hcd hmg hobj hints hlen hg) λr s' hq=>?_);obtain⟨rfl,h2,h3,h4⟩:=hq;exact⟨.inl ⟨.bool true,.bool true,[],rfl,λ_=>rfl,.bool true,qld l _,λ_=>⟨List.Pairwise.nil,λ_ hm=>(nomatch hm)⟩⟩,h2,h3,h4⟩
section
variable {prog:Program}{w:World}{A:Around}{E:Value->Shared->Prop}{s:Shared}{K:Frag}
end
end Att
namespace L2
open PySem PySem.Spec PyProof.Rows
theorem qdR:∀{vs:List Value}{ns:List Int},IntsAre vs ns->qaN (ns.map V.int) vs
 | _,_,.nil => .nil
 | _,_,.cons n t h => .cons ⟨t,rfl⟩ (qdR h)
def qtF (H:Hp):Prop:=∀b,H b=none\/∃o xs,H b=some (.frz o (.lst xs))
theorem qnV {P:Program}{w:World}{K:PySem.W.Frag}{mg mb:Str->Option Value}{CX:CXT}{k:Nat}{fa a:Addr}{fd:FuncData}{x:Str}{sp:Sp}{s₁:Shared}{vs:List Value}{ns:List Int}
 (KX:K.In s₁.heap)(hns:s₁.heap.Ns mainGlobals mg)(hb:s₁.heap.Ns builtinsNs mb)(hbb:∀x:Str,x ≠ "__name__" -> mb x=bootBuiltins x)(hlim:s₁.heap.NoLimit)(hg:s₁.gens = #[])
 (ha:s₁.heap.get? a=some { cls := .type "list",data := .seq vs.toArray })(hi:IntsAre vs ns)(hl:ns.length<=sizeLine)(hr:qdE k callerA)
 (F:∀base:Heap,K.In base->base.Ns mainGlobals mg->qaM P w K mg base CX k fa fd [x] sp)(hbind:∀(s:Shared) (u:Value),BindsTo s fd ⟨[u],[]⟩ [(x,u)])
 (hsp:∀H:Hp,qtF H->SqL K H a (ns.map V.int)->sp [.ref a] H (λv _=>v = .bl true) λ_ _ _=>False)
 (hCX:∀H e s',CX [] H s₁ (λ_ _ _=>False) e s'->False) :
 codeAny (model P w) callerA (.call (.ref fa) ⟨[.ref a],[]⟩) (λr s'=>r = .ok (.ret (.bool true))/\OldK s₁.heap s'.heap/\s'.os=s₁.os/\AllBare s'.gens) s₁:=by
 have rv:=qdR hi;have lenV:=hi.length
 -- from an abstract heap in which nothing but the script may be tracked
 have core:∀H:Hp,qtF H->SqL K H a (ns.map V.int)->HOk P w H s₁.heap->(∀b,H b≠none->b=a)->(H a≠none->K.lookup a=none) ->
  codeAny (model P w) callerA (.call (.ref fa) ⟨[.ref a],[]⟩) (λr s'=>r = .ok (.ret (.bool true))/\OldK s₁.heap s'.heap/\s'.os=s₁.os/\AllBare s'.gens) s₁:=by
  intro H hO hS hok hA hK;have base_of:∀{b:Addr}{o:Obj},s₁.heap.get? b=some o->H b=none->(qor s₁.heap H).get? b=some o:=λe n=>qoD e n
  have noA:∀{b:Addr}{o:Obj}{es:Array DictEntry}{ep:Nat},s₁.heap.get? b=some o->o.data = .dict es ep->H b=none:=λ{b o es ep} e d=>by
   cases q:H b with
   | none=>rfl
   | some u =>
    have e':b=a:=hA b (by rw[q];simp);subst e';rw[ha] at e;cases e;have d':Data.seq vs.toArray _=Data.dict es ep:=d;cases d'
  have nsK:∀{b:Addr}{m:Str->Option Value},s₁.heap.Ns b m->(qor s₁.heap H).Ns b m:=λ{b m} ⟨o,es,ep,e,d,r⟩=>⟨o,es,ep,base_of e (noA e d),d,r⟩
  have hKb:K.In (qor s₁.heap H):=λb o e=>base_of (KX b o e) (by
   cases q:H b with
   | none=>rfl
   | some u =>
    have e':b=a:=hA b (by rw[q];simp);subst e';rw[hK (by rw[q];simp)] at e;cases e)
  have hM:Mod K mg (qor s₁.heap H):=⟨hKb,nsK hns,⟨mb,nsK hb,hbb⟩,let ⟨mc,h1,h2⟩:=hlim;⟨mc,nsK h1,h2⟩⟩;have e0:qrm P w K mg (qor s₁.heap H) callerA [] s₁ H:=⟨rfl,hM,λb o e=>qpM e,yeh (qmZ _ _),trivial,λb hb=>absurd (show b∈([]:List Addr) from hb) (by simp),hok,.of_eq hg⟩;refine codeAny_mono ((F _ hKb (nsK hns)).run callerA [] s₁ H ⟨[.ref a],[]⟩ [.ref a] [.ref a] _ _ hr e0 (hbind s₁ (.ref a)) (.cons rfl .nil) (hsp H hO hS)) λr s' h=>?_;cases r with
  | error e=>exact(hCX H e s' h).elim
  | ok fl =>
   cases fl with
   | next=>exact False.elim h
   | brk=>exact False.elim h
   | cont=>exact False.elim h
   | ret u =>
    obtain⟨v,H',os,bare,un,hok',r',q⟩:=h;have q':v = .bl true:=q;subst q';obtain rfl:u=Value.bool true:=r';refine⟨rfl,OldK.of_keep λb o e=>?_,os,bare⟩;cases q:H b with
    | none=>exact un.keep b o e q (by intro z;exact absurd (show b∈([]:List Addr) from z) (by simp)) (by simp)
    | some u =>
     rcases hO b with z | ⟨ob,xs,z⟩
     .rw[q] at z;cases z
     .have z2:=un.frzs b ob _ z
      obtain⟨e1,_⟩:=hok b _ z;obtain⟨e2,_⟩:=hok' b _ z2;rw[e] at e1;cases e1;exact e2
 cases hk:K.lookup a with
 | some o =>
  -- the script is one of the module's own objects
  have e:=KX a o hk;rw[ha] at e;cases e;refine core (λ_=>none) (λ_ => .inl rfl) (.inr ⟨_,vs.toArray,_,hk,rfl,rfl,rfl,by rw[yfh,lenV];exact hl,by simpa using rv⟩) (λb u z=>by have z':(none:Option HO)=some u:=z;cases z') (λb z=>absurd rfl z) λz=>absurd rfl z
 | none =>
  refine core (λb=>if b=a then some (.frz { cls := .type "list",data := .seq vs.toArray } (.lst (ns.map V.int))) else none) (λb=>?_) (.inl (.inr ⟨{ cls := .type "list",data := .seq vs.toArray },if_pos rfl⟩)) (λb u z=>?_) (λb z=>?_) λ_=>hk
  .by_cases hb:b=a
   .exact .inr ⟨_,_,if_pos hb⟩
   .exact .inl (if_neg hb)
  .by_cases hb:b=a
   .have z':=(if_pos hb).symm.trans z
    cases z';subst hb;exact⟨ha,by rw[ycd];exact hl,vs,_,rv,ha⟩
   .have z':=(if_neg hb).symm.trans z
    cases z'
  .by_cases hb:b=a
   .exact hb
   .exact absurd (if_neg hb) z
end L2
namespace L2
open PySem PySem.Spec PyProof.Rows
theorem walk_of {l:PySem.W.OpenLaw}{n k:Nat}{q:Program}{loose:List Str}{XP:(Str->Option Value)->Heap->Prop}{YP:World->Heap->Prop}{d:DefRec}{K:Params->PySem.W.Frag}{CX:World->CXT}{sp:World->Sp}{x:Str}
 (hn:l.most=some n)(hn2:n<=sizeLine)(hdf:d.params.defaults=[])(hr:qdE k callerA)
 (hY:∀(w:World) (h:Heap),YP w h->(K w.params).In h)
 (F:∀(w:World) (mg:Str->Option Value) (fa:Addr) (h:Heap),(K w.params).In h->h.Ns mainGlobals mg->mg d.name=some (.ref fa) ->
  ∃fd:FuncData,(∀(s:Shared) (u:Value),BindsTo s fd ⟨[u],[]⟩ [(x,u)]) /\
   ∀base:Heap,(K w.params).In base->base.Ns mainGlobals mg->qaM l.prog w (K w.params) mg base (CX w) k fa fd [x] (sp w))
 (hsp:∀(w:World) (H:Hp) (a:Addr) (ns:List Int),ns.length<=n->qtF H->SqL (K w.params) H a (ns.map V.int)->sp w [.ref a] H (λv _=>v = .bl true) λ_ _ _=>False)
 (hCX:∀(w:World) (H:Hp) (s:Shared) (e:Value) (s':Shared),CX w [] H s (λ_ _ _=>False) e s'->False) :
 PySem.W.WalkO q loose XP YP l.row.toRowW d [] (λf vs=>PySem.call f vs):=by
 refine Att.attach_call hn hdf λw s₀ s₁ mg mb fa o pm cd doc a vs ns G Y ho hd hcd hmg hobj hints hlen hg=>?_;have KX:=hY w _ Y;obtain⟨fd,hb,hF⟩:=F w mg fa _ KX G.T.g hmg;exact qnV KX G.T.g G.T.b G.T.builtins G.T.nolimit hg hobj hints (ybn hlen hn2) hr hF hb (λH hO hS=>hsp w H a ns hlen hO hS) λH e s'=>hCX w H s₁ e s'
end L2
namespace L2
open PySem PySem.Spec PyProof.Rows
def qfl (s:Stmt)(j:Nat):Stmt:=match s with
 | .ClassDef _ _ _ body _ _ _ _ _ _ _=>body.getD j (.Pass ⟨0,0,0,0⟩)
 | _ => .Pass ⟨0,0,0,0⟩
def qb2 (s:Stmt):Arguments:=match s with
 | .FunctionDef _ a _ _ _ _ _ _ _ _=>a
 | _=>{ posonlyargs:=[],args:=[],vararg:=none,kwonlyargs:=[],kw_defaults:=[],kwarg:=none,defaults:=[] }
def qbQ (s:Stmt):List Stmt:=match s with
 | .FunctionDef _ _ b _ _ _ _ _ _ _=>b
 | _=>[]
def qaf (s:Stmt):Scope:=match s with
 | .FunctionDef _ _ _ _ _ _ sc _ _ _=>sc
 | _=>{ kind := .function,names:=[],isGenerator:=false,isCoroutine:=false }
abbrev CX0:CXT:=λ_ _ _ _ _ _=>False
abbrev E0:XK:=λ_ _ _=>False
theorem qqP {X:Cx}:qgt CX0 X E0:=λ_ _ _ _ _ _ _ h=>h.elim
structure Fun (K:PySem.W.Frag)(x qual:Str)(st:Stmt)(f:Addr)(fd:FuncData):Prop where
 ex:∃(oc:Value) (od:Option Addr) (kV doc pm:Value) (an:Option Addr) (cdv ct:Value) (osl:Array (Option Value)),
  fd=PySem.W.fnOf x qual (qb2 st) (qbQ st) (qaf st) .none kV doc pm an cdv ct/\K.lookup f=some ⟨oc,od,.func fd,osl⟩/\PySem.W.codeIn K cdv qual=true
 kp:PySem.W.keepIn K (.ref f)=true
section
variable {P:Program}{w:World}{K:PySem.W.Frag}{mg:Str->Option Value}{base:Heap}
theorem Fun.ok {x qual:Str}{st:Stmt}{f:Addr}{fd:FuncData}{N ps:List Str}{k:Nat}{sp:Sp}(F:Fun K x qual st f fd)(S:qal N ps (qaf st))(len:∀vs H Q E,sp vs H Q E->vs.length=ps.length)
 (hbody:∀(cdv:Value) (A:Around) (outer:List Env) (s:Shared) (H:Hp) (vs:List V) (Q:VK) (E:XK),qdE k (A.deeper (envOfC qual (qaf st) s.heap.objs.size f cdv))->sp vs H Q E ->
  ∃t,PSs (qqL CX0 P w K mg base N qual (qaf st) f cdv A outer s H E).nox (qbQ st) t/\t { nx:=λ_ H'=>Q .non H',rt:=Q } (qii N vs) H):qaM P w K mg base CX0 (k+1) f fd ps sp:=by
 obtain⟨oc,od,kV,doc,pm,an,cdv,ct,osl,rfl,lk,hcd⟩:=F.ex;refine quf lk hcd S len λA outer s H vs Q E hr hsp=>?_;obtain⟨t,h,q⟩:=hbody cdv A outer s H vs Q E hr hsp;exact⟨t,h.nox,q⟩
theorem Fun.binds {x qual:Str}{st:Stmt}{f:Addr}{fd:FuncData}{ps:List Str}(F:Fun K x qual st f fd)
 (h:∀(kV doc pm:Value) (an:Option Addr) (cdv ct:Value) (us:List Value),us.length=ps.length->bindArgs (PySem.W.fnOf x qual (qb2 st) (qbQ st) (qaf st) .none kV doc pm an cdv ct) ⟨us,[]⟩=pure (ps.zip us)):qdA K fd ps []:=by
 obtain⟨oc,od,kV,doc,pm,an,cdv,ct,osl,rfl,lk,hcd⟩:=F.ex;exact .all (h kV doc pm an cdv ct)
theorem qkS {x qual:Str}{st:Stmt}{f:Addr}{oc:Value}{od an:Option Addr}{osl:Array (Option Value)}{kV doc pm cdv ct:Value}(l:K.lookup f=some ⟨oc,od,.func (PySem.W.fnOf x qual (qb2 st) (qbQ st) (qaf st) .none kV doc pm an cdv ct),osl⟩)
 (c:PySem.W.codeIn K cdv qual=true)(k:PySem.W.keepIn K (.ref f)=true):Fun K x qual st f (PySem.W.fnOf x qual (qb2 st) (qbQ st) (qaf st) .none kV doc pm an cdv ct):=⟨⟨oc,od,kV,doc,pm,an,cdv,ct,osl,rfl,l,c⟩,k⟩
end
theorem qoC {A:Around}{k:Nat}(hr:qdE k A):A.units+1<cLine:=ybk (Nat.add_le_add_left (by decide:1<=64) _) hr.units
section
variable {X:Cx}
theorem pv (i:Nat){x:Str}{pos:Pos}(hN:X.N[i]?=some x:=by rfl)(hv:Vis X.env.scope x:=by first | exact Or.inl rfl | exact Or.inr (Or.inl rfl) | exact Or.inr (Or.inr rfl))(hd:(x==("__debug__" : Str))=false:=by decide)
 (hcd:(x==("__classdict__" : Str))=false:=by decide):PE X (.Name x pos) (qug i):=qte hN hv hd hcd
end
theorem qcA {A B:Prop}(h:B):if false=true then A else B:=by
 rw[if_neg yet];exact h
theorem qeK {A B:Prop}(h:A):if true=true then A else B:=by
 rw[if_pos rfl];exact h
theorem qqz {c A B:Prop}[Decidable c](h1:c->A)(h2:¬c->B):if c then A else B:=by
 by_cases h:c
 .rw[if_pos h]
  exact h1 h
 .rw[if_neg h]
  exact h2 h
def qar (H H':Hp):Prop:=∀b o,H b=some o->H' b=some o
theorem qar.refl (H:Hp):qar H H:=λ_ _ h=>h
theorem qar.trans {H H1 H2:Hp}(a:qar H H1)(b:qar H1 H2):qar H H2:=λc o h=>b c o (a c o h)
theorem qar.seq {K:PySem.W.Frag}{H H':Hp}{a:Addr}{xs:List V}(e:qar H H')(h:SqL K H a xs):SqL K H' a xs:=by
 rcases h with(h | ⟨o,h⟩) | h
 .exact .inl (.inl (e _ _ h))
 .exact .inl (.inr ⟨o,e _ _ h⟩)
 .exact .inr h
end L2
namespace L2
open PySem
theorem qdv {env:Env}:∀(names:List (Str×NameKind)) (init:List (Str×Addr)),(∀n k,(n,k)∈names->k = .free->∃c,env.cells.lookup n=some c) ->
 (∀n c,init.lookup n=some c->env.cells.lookup n=some c) ->
 ∃cl,(forIn names init λ(x:Str×NameKind) (cs:List (Str×Addr))=>(match x with
  | (name,kind)=>if (kind==NameKind.free)=true then (do let a <-cellOf env name;pure (ForInStep.yield ((name,a)::cs))) else pure (ForInStep.yield cs):Sem (ForInStep (List (Str×Addr)))))=(pure cl:Sem (List (Str×Addr))) /\
  (∀n c,cl.lookup n=some c->env.cells.lookup n=some c)/\(∀n,(n,NameKind.free)∈names\/(∃c,init.lookup n=some c)->∃c,cl.lookup n=some c)
 | [],init,_,h1=>⟨init,rfl,h1,λn h=>by rcases h with h | h;cases h;exact h⟩
 | (nm,k)::r,init,h0,h1=>by
  by_cases hk:k = .free
  .obtain⟨c,hc⟩:=h0 nm k ybd hk
   have h1':∀n c',((nm,c)::init).lookup n=some c'->env.cells.lookup n=some c':=λn c' e=>by
    rw[yfu] at e;split at e
    .rename_i he
     have:n=nm:=by simpa using he
     subst this;cases e;exact hc
    .exact h1 n c' e
   obtain⟨cl,e1,e2,e3⟩:=qdv r ((nm,c)::init) (λn k' hm=>h0 n k' (ybg _ hm)) h1';refine⟨cl,?_,e2,λn hn=>e3 n ?_⟩
   .rw[yfv]
    subst hk;have:cellOf env nm=pure c:=by unfold cellOf;rw[hc]
    simp only[this];exact e1
   .rcases hn with hn | ⟨c',hn⟩
    .rcases ybf.mp hn with e | e
     .cases e
      exact .inr ⟨c,by simp[yfu]⟩
     .exact .inl e
    .right
     rw[yfu];split
     .exact⟨_,rfl⟩
     .exact⟨c',hn⟩
  .obtain⟨cl,e1,e2,e3⟩:=qdv r init (λn k' hm=>h0 n k' (ybg _ hm)) h1
   refine⟨cl,?_,e2,λn hn=>e3 n ?_⟩
   .rw[yfv]
    have:(k==NameKind.free)=false:=by simpa using hk
    simp only[this];exact e1
   .rcases hn with hn | hn
    .rcases ybf.mp hn with e | e
     .cases e;exact absurd rfl hk
     .exact .inl e
    .exact .inr hn
theorem qcM {scope:Scope}{env:Env}(h:∀n,(n,NameKind.free)∈scope.names->∃c,env.cells.lookup n=some c) :
 ∃cl,closureFor scope env=pure cl/\(∀n c,cl.lookup n=some c->env.cells.lookup n=some c)/\(∀n,(n,NameKind.free)∈scope.names->∃c,cl.lookup n=some c):=by
 obtain⟨cl,e1,e2,e3⟩:=qdv (env:=env) scope.names [] (λn k hm hk=>h n (hk▸hm)) (λn c e=>by cases e);refine⟨cl,?_,e2,λn hn=>e3 n (.inl hn)⟩
 have e:closureFor scope env=((forIn scope.names ([]:List (Str×Addr)) λ(x:Str×NameKind) (cs:List (Str×Addr))=>(match x with
  | (name,kind)=>if (kind==NameKind.free)=true then (do let a <-cellOf env name;pure (ForInStep.yield ((name,a)::cs))) else pure (ForInStep.yield cs):Sem (ForInStep (List (Str×Addr))))) >>= λr=>pure r):=rfl
 rw[e,e1];rfl
end L2
namespace L2
open PySem PySem.Spec PyProof.Rows
section
variable {X:Cx}{pins:List (Addr×Obj)}{σ:St}{H:Hp}{s:Shared}
theorem Inv.track {p:Addr}{o:HO}(I:Inv X pins σ H s) (f:qhL X pins H p) (new:qbu X.prog X.w (upd H p o) s.heap p o):Inv X pins σ (upd H p o) s:=by
 obtain⟨f0,f1,f2,f3,f4,f5⟩:=f;have nit:∀b u,H b=some u->b≠p:=λb u e z=>by rw[z,f0] at e;cases e
 refine I.step (h':=s.heap) (g':=s.gens) (d':=s.drawn) (t':=s.toks) (ch:=[p]) (λb hb=>?_) (λb o _ _ _ e _=>e) (λb o _ _ _ e _=>⟨o.slots,e⟩)
  (λb o hc e n=>by rw[qay (λz=>hc (by simp[z]))];exact n) (λb o _ e=>⟨o,e⟩) (λb xs e=>by rw[qay (nit b _ e)];exact e) (λb o u e=>by rw[qay (nit b _ e)];exact e)
  (λb ps e=>⟨#[],by rw[qay (nit b _ e),e];simp⟩) (λm hm=>hm) (λb u e=>?_) I.bare
 .have e:b=p:=by simpa using hb
  subst e;exact⟨f3,f1,f4,f5⟩
 .by_cases hb:b=p
  .subst hb;rw[qag] at e;cases e;exact new
  .rw[qay hb] at e
   exact(I.hok b u e).stay (λc v _ q=>q) (λc q=>by rw[qay (nit c _ q)];exact q) λc xs q=>by rw[qay (nit c _ q)];exact q
end
section
variable {prog:Program}{w:World}{A:Around}{R:Result->Shared->Prop}{s:Shared}
theorem qeD {elt target iter:Expr}{ifs:List Expr}{scope:Scope}{pos:Pos}{it acc:Value}{env:Env}(I:Nat->Shared->Prop)
 (turn:∀n s,I n s->wpAny (model prog w) A (pyNext it) (λr s₁=>match r with
  | none=>R (.ok .next) s₁
  | some v=>wpAny (model prog w) A (letOwnedTupleGo target it v) (λ_ s₁'=>wpAny (model prog w) A (assign target env v) (λ_ s₂ =>
   wpAny (model prog w) A (forIn ifs true λc r=>if r=true then do let ok <-isTrue c env (eval c env);pure (ForInStep.yield ok) else pure (ForInStep.yield r)) (λok s₃ =>
    if ok=true then wpAny (model prog w) A (eval elt env) (λx s₄ =>
     wpAny (model prog w) A (call (.builtin "list.append") [acc,x]) (λ_ s₅=>∃m,m<n/\I m s₅) (λ_ _=>False) s₄) (λ_ _=>False) s₃
    else ∃m,m<n/\I m s₃) (λ_ _=>False) s₂) (λ_ _=>False) s₁') (λ_ _=>False) s₁) (λ_ _=>False) s)
 (n:Nat)(h:I n s):codeAny (model prog w) A (.compLoop (.ListComp elt [⟨target,iter,ifs,0⟩] scope pos) 0 it acc env) R s:=by
 refine codeAny_loop rfl I (λn s hI=>?_) n h;show wpAny _ A ((compTurn (.ListComp elt [⟨target,iter,ifs,0⟩] scope pos) 0 it acc env).onRaise (λx=>do noteFrame x env;theTreesLotGoes x)) _ _ s;refine wpAny_noted (wpAny_noRaise ?_);rw[compTurn_list];refine wpAny_bind (wpAny_standAt (wpAny_bind (wpAny_mono (turn n s hI) (λr s₁ h₁=>?_) λ_ _ h'=>h')));cases r with
 | none=>exact wpAny_pure h₁
 | some v =>
  refine wpAny_bind (wpAny_mono h₁ (λ_ s₁' h₁'=>?_) λ_ _ h'=>h');refine wpAny_bind (wpAny_mono h₁' (λ_ s₂ h₂=>wpAny_bind (wpAny_mono h₂ (λok s₃ h₃=>?_) λ_ _ h'=>h')) λ_ _ h'=>h');cases ok with
  | false=>exact wpAny_pure ⟨rfl,h₃⟩
  | true =>
   exact wpAny_bind (wpAny_bind (wpAny_mono h₃ (λx s₄ h₄=>wpAny_bind (wpAny_mono h₄ (λ_ s₅ h₅=>wpAny_pure (wpAny_pure ⟨rfl,h₅⟩)) λ_ _ h'=>h')) λ_ _ h'=>h'))
end
def blk (X:Cx)(N:List Str)(scope:Scope)(cl:List (Str×Addr))(C:Addr)(s:Shared)(H:Hp)(fp:List Addr):Cx :=
 { X with N:=N,s₀:=s,H₀:=H,env:=compEnvC scope cl C X.env,outer:=X.stack,ex:=fp,fn:=λ_=>false,pn:=[],xe:=λ_ _=>False }
def PTs (X:Cx)(ifs:List Expr)(t:TT):Prop :=
 ∀(pins:List (Addr×Obj)) (s:Shared) (σ:St) (H:Hp) (Q:Bool->Hp->Prop),Inv X pins σ H s->t σ H Q ->
  wpAny (model X.prog X.w) X.A (forIn ifs true λc r=>if r=true then do let ok <-isTrue c X.env (eval c X.env);pure (ForInStep.yield ok) else pure (ForInStep.yield r)) (TP X pins σ Q) X.xe s
def quo:TT:=λ_ H Q=>Q true H
theorem qaD {X:Cx}:PTs X [] quo:=λ_ _ _ H _ I h=>wpAny_tests_nil ⟨H,I,h⟩
theorem qb6 {X:Cx}{c:Expr}{t:TT}(h:PT X c t):PTs X [c] t:=λpins s σ H Q I hw=>wpAny_tests_one (h pins s σ H Q I hw)
def qa2 (nt:Nat)(caps:List Nat)(σ:St):St:=List.replicate nt none++caps.map λj=>(σ[j]?).join
def qiw (nt:Nat)(g:TG):Prop:=∀(v:V) (cs:St) (H:Hp) (Q:St->Hp->Prop),g v (List.replicate nt none++cs) H Q ->
 g v (List.replicate nt none++cs) H λσ' H'=>(∀(j:Nat) (u:V),(List.replicate nt none++cs)[j]?=some (some u)->σ'[j]?=some (some u))/\Q σ' H'
theorem qaz:qiw 1 (qh4 0):=by
 intro v cs H Q h;refine⟨λj u e=>?_,h⟩;cases j with
 | zero=>simp at e
 | succ j=>simpa using e
def qfY (nt:Nat)(caps:List Nat)(wi:TI)(g:TG)(tt:TT)(te:TE):TE:=λσ H Q=>wi σ H λJ H1 =>
 ∃W:Nat->Nat->List V->Hp->Prop,(∃m,W 0 m [] H1)/\∀i m ys H2,W i m ys H2 ->
  (J.stop i H2/\ys.length<=sizeLine/\∀p,H2 p=none->Q (.ref p) (upd H2 p (.lst ys))) \/
  (J.go i H2/\ys.length<sizeLine/\∀x H3,J.yld i H2 x H3->g x (qa2 nt caps σ) H3 λσ4 H4=>tt σ4 H4 λb H5 =>
   if b=true then te σ4 H5 λy H6=>∃m',m'<m/\W (i+1) m' (ys++[y]) H6 else ∃m',m'<m/\W (i+1) m' ys H5)
structure qjs (X:Cx)(N:List Str)(nt:Nat)(caps:List Nat)(scope:Scope):Prop where
 cell:∀y∈scope.names,y.2 ≠ .cell
 kind:scope.kind = .function
 names:∀x∈scope.names,x.2 = .local->scope.names.lookup x.1=some .local
 free:∀n,(n,NameKind.free)∈scope.names->X.env.kindOf n=some .cell\/X.env.kindOf n=some .free
 cap:∀(j i:Nat),caps[j]?=some i->∃x,X.N[i]?=some x/\N[nt+j]?=some x/\(x,NameKind.free)∈scope.names/\scope.names.lookup x=some .free
 len:N.length=nt+caps.length
theorem qbX {α:Type}(f:Str×α->Str×α)(hf:∀p,(f p).1=p.1):∀(l:List (Str×α)) (x:Str),(l.map f).lookup x=(l.lookup x).map λk=>(f (x,k)).2
 | [],_=>rfl
 | (n,k)::r,x=>by
  have ih:=qbX f hf r x;have e:f (n,k)=(n,(f (n,k)).2):=Prod.ext (hf (n,k)) rfl;rw[ycg,e,yfu,yfu];split
  .rename_i h
   have:x=n:=by simpa using h
   subst this;rfl
  .exact ih
theorem qex {α:Type}:∀{l:List (Str×α)}{x:Str}{k:α},l.lookup x=some k->(x,k)∈l
 | [],_,_,h=>by cases h
 | (n,q)::r,x,k,h=>by
  rw[yfu] at h;split at h
  .rename_i e
   have:x=n:=by simpa using e
   subst this;cases h;exact ybd
  .exact ybg _ (qex h)
theorem qeI {scope:Scope}{env:Env}{x:Str}(hc:∀y∈scope.names,y.2 ≠ .cell){k:NameKind}(h:(relabel scope env).names.lookup x=some k)(hk:k = .cell\/k = .free):(x,NameKind.free)∈scope.names:=by
 unfold relabel at h;dsimp only at h;rw[qbX _ (λp=>by obtain⟨n,k⟩:=p;dsimp only;split<;>rfl)] at h;cases hl:scope.names.lookup x with
 | none=>rw[hl] at h;cases h
 | some q =>
  rw[hl] at h;have m:=qex hl;by_cases hq:q = .free
  .rw[<-hq];exact m
  .exfalso
   have hb:(q==NameKind.free)=false:=by simpa using hq
   simp only[yfr,hb,yeu,yem,if_false,Option.some.injEq] at h;rcases hk with z | z
   .exact hc _ m (h.trans z)
   .exact hq (h.trans z)
theorem qeO {scope:Scope}{env:Env}{x:Str}(h:scope.names.lookup x=some .free):(relabel scope env).names.lookup x≠some .local:=by
 intro q;unfold relabel at q;dsimp only at q;rw[qbX _ (λp=>by obtain⟨n,k⟩:=p;dsimp only;split<;>rfl),h] at q;dsimp only[Option.map] at q;split at q<;>cases q
def qlO (sc:Scope)(NX N:List Str)(nt:Nat)(caps:List Nat)(scope:Scope):Bool :=
 scope.names.all (λy=>!(y.2 == .cell))&&scope.kind == .function&&scope.names.all (λy=>!(y.2 == .local)||scope.names.lookup y.1==some .local)
 && scope.names.all (λy=>!(y.2 == .free)||sc.names.lookup y.1==some .cell||sc.names.lookup y.1==some .free)
 && (List.range caps.length).all (λj=>match NX[caps.getD j 0]? with
  | some x=>N[nt+j]?==some x&&scope.names.any (λy=>y.1==x&&y.2 == .free)&&scope.names.lookup x==some .free
  | none=>false)
 && N.length==nt+caps.length
theorem qax {X:Cx}{N:List Str}{nt:Nat}{caps:List Nat}{scope:Scope}(h:qlO X.env.scope X.N N nt caps scope=true:=by rfl):qjs X N nt caps scope:=by
 unfold qlO at h;simp only[yab,ybh,ycz,yay,beq_iff_eq,beq_eq_false_iff_ne,ne_eq] at h;obtain⟨⟨⟨⟨⟨h1,h2⟩,h3⟩,h4⟩,h5⟩,h6⟩:=h;refine⟨λy hy=>h1 y hy,h2,λy hy e=>(h3 y hy).resolve_left λz=>z e,λn hn=>?_,λj i e=>?_,h6⟩
 .rcases h4 (n,.free) hn with(z | z) | z
  .exact absurd rfl z
  .exact .inl z
  .exact .inr z
 .obtain⟨hj,e'⟩:=ycm.mp e
  have q:=h5 j (ybj.mpr hj);have eg:caps.getD j 0=i:=by rw[ycj,e];rfl
  rw[eg] at q;cases hx:X.N[i]? with
  | none=>rw[hx] at q;cases q
  | some x =>
   rw[hx] at q;simp only[yab,beq_iff_eq,ybl] at q;obtain⟨⟨q1,y,hy,e1,e2⟩,q3⟩:=q;refine⟨x,rfl,q1,?_,q3⟩;obtain⟨n,k⟩:=y;cases e1;cases e2;exact hy
section
variable {X:Cx}{tg iter elt:Expr}{ifs:List Expr}{scope:Scope}{pos:Pos}{N:List Str}{nt:Nat}{caps:List Nat}{wi:TI}{g:TG}{tt:TT}{te:TE}{cl:List (Str×Addr)}
theorem qjX {pins:List (Addr×Obj)}{σ:St}{H:Hp}{s:Shared}{it:Addr}{fp:List Addr}{tn:Nat->Heap->Prop}{J:It}{RR:Value->Addr->Result->Shared->Prop}{E:Value->Shared->Prop}
 (ok:qjs X N nt caps scope)(hc:X.calm=true)(h1:∀n c,cl.lookup n=some c->X.env.cells.lookup n=some c)(h2:∀n,(n,NameKind.free)∈scope.names->∃c,cl.lookup n=some c)
 (hg:∀cl C s H fp,PG (blk X N scope cl C s H fp) tg g)(hgk:qiw nt g)(ht:∀cl C s H fp,PTs (blk X N scope cl C s H fp) ifs tt)(he:∀cl C s H fp,PE (blk X N scope cl C s H fp) elt te)
 (I:Inv X pins σ H s)(T:qlr X.prog X.w X.K tg J fp it tn)(st:tn 0 s.heap)(hf:∀b∈fp,qhL X pins H b)
 (W:Nat->Nat->List V->Hp->Prop)(Z:List V->Hp->Prop)(m0:Nat)(w0:W 0 m0 [] H)
 (turn:∀i m ys H2,W i m ys H2->(J.stop i H2/\Z ys H2) \/
  (J.go i H2/\ys.length<sizeLine/\∀x H3,J.yld i H2 x H3->g x (qa2 nt caps σ) H3 λσ4 H4=>tt σ4 H4 λb H5 =>
   if b=true then te σ4 H5 λy H6=>∃m',m'<m/\W (i+1) m' (ys++[y]) H6 else ∃m',m'<m/\W (i+1) m' ys H5))
 (hRR:∀(C:Addr) (s':Shared) (ys:List V) (its:List Value) (n:Nat) (H':Hp),s.heap.objs.size<C->qaN ys its->Inv (blk X N scope cl C s H fp) [] (qa2 nt caps σ) H' s' ->
  s'.heap.get? s.heap.objs.size=some { cls := .type "list",data := .seq its.toArray n }->H' s.heap.objs.size=none->Z ys H'->RR (.ref s.heap.objs.size) C (.ok .next) s') :
 wpAny (model X.prog X.w) X.A (newList []) (λacc s₃=>wpAny (model X.prog X.w) X.A (newFunctionEnv scope X.env.globals cl [] X.env.qual none .none (some X.env)) (λcenv s₄ =>
  codeAny (model X.prog X.w) X.A (.compStart (.ListComp elt [⟨tg,iter,ifs,0⟩] scope pos) 0 (.ref it) acc { cenv with scope:=relabel scope X.env }) (RR acc cenv.locals) s₄) E s₃) E s:=by
 refine wpAny_newObj_type (wpAny_newFunctionEnv ok.cell (by intro y hy;simp at hy) (λh₁ hns₁ hsb₁=>?_) ok.kind);dsimp only at hns₁ hsb₁⊢;generalize hG:s.heap.push { cls := .type "list",dict:=none,data := .seq ([]:List Value).toArray }=G at hns₁ hsb₁⊢;have hC:G.objs.size=s.heap.objs.size+1:=by rw[<-hG,ydw]
 have hDC:s.heap.objs.size≠G.objs.size:=by rw[hC];exact ydx (ycy _)
 have hlt:s.heap.objs.size<G.objs.size:=by rw[hC];exact ycy _
 have old:∀b o,s.heap.get? b=some o->h₁.get? b=some o:=λb o e =>
  hsb₁.extBut b o (ydx (ybp (ydv e) hlt)) (ydu _ (hG▸ydu _ e))
 have hacc:h₁.get? s.heap.objs.size=some { cls := .type "list",data := .seq ([]:List Value).toArray 0 }:=hsb₁.extBut _ _ hDC (ydu _ (hG▸ydt _ rfl))
 have fpD:∀b∈fp,b<s.heap.objs.size:=λb hb=>by
  obtain⟨o,e,_⟩:=T.obj _ _ st b hb;exact ydv e
 have celt:∀n c,cl.lookup n=some c->c<s.heap.objs.size:=λn c e=>by
  obtain⟨v,q⟩:=I.cell n c (h1 n c e);exact q.lt
 have YOk:(blk X N scope cl G.objs.size s H fp).Ok:=by
  refine⟨I.ok.mod,ok.kind,I.ok.glob,I.ok.blt,ydc hlt,λx y c e e'=>I.ok.inj x y c (h1 x c e) (h1 y c e'),λx hx=>?_,λx c hx _=>(nomatch hx),I.ok.hd,I.ok.frames,.inl rfl,
   λb hb=>⟨ydx (ybp (fpD b hb) hlt),λx c e z=>?_⟩,λb o e=>I.bs b o e,ybn I.ok.bsz I.sz,λb o e hb=>?_,λb hb hz=>?_,I.stack,I.stkFree⟩
  .rcases hx with hx | hx
   .exact h2 x (qeI ok.cell hx (.inl rfl))
   .exact h2 x (qeI ok.cell hx (.inr rfl))
  .exact(hf b hb).2.2.2.2.1 x c (h1 x c e) z
  .rcases(hf b hb).2.2.2.1 with z | z
   .exact I.ok.noex b o e z
   .exact absurd (yae (ydv e) (ybn I.ok.bsz z)) (yen _)
  .rcases ybf.mp (I.stkSub b hz) with z | z
   .exact(hf b hb).2.1 z
   .exact(hf b hb).2.2.1 z
 have lenb:(qa2 nt caps σ).length=N.length:=by rw[ok.len];simp[qa2]
 have IY:Inv (blk X N scope cl G.objs.size s H fp) [] (qa2 nt caps σ) H { s with heap:=h₁,toks:=s.toks+([]:List (Str×Value)).length }:=by
  refine⟨YOk,rfl,I.bare,Un.kept old,⟨_,hns₁,λi x v e1 e2 e3=>?_⟩,λx c e=>?_,I.hok.fresh (ydc hlt),λx c e=>I.freeC x c (h1 x c e),λp hp=>(nomatch hp),I.hok.kept old,lenb⟩
  .have hi:nt<=i:=by
    rcases yag i nt with z | z
    .exfalso
     unfold qa2 at e2;rw[yfe (by simpa using z),yfd] at e2;split at e2<;>cases e2
    .exact z
   unfold qa2 at e2;rw[yfc (by simpa using hi),yff,ycp] at e2;cases ej:caps[i-nt]? with
   | none=>rw[ej] at e2;cases e2
   | some j =>
    rw[ej] at e2;have e2':(σ[j]?).join=some v:=by simpa using e2
    have e2'':σ[j]?=some (some v):=by
     cases q:σ[j]? with
     | none=>rw[q] at e2';cases e2'
     | some z=>rw[q] at e2';simp at e2';rw[e2']
    obtain⟨y,y1,y2,y3,y4⟩:=ok.cap _ _ ej;have:nt+(i-nt)=i:=by omega
    rw[this] at y2;have e1':N[i]?=some x:=e1;rw[e1'] at y2;cases y2;obtain⟨m,hn,hl⟩:=I.loc;have kx:=ok.free x y3
    have vx:Vis X.env.scope x:=by
     rcases kx with z | z
     .exact .inr (.inl z)
     .exact .inr (.inr z)
    obtain⟨u,r,l⟩:=hl j x v y1 e2'' vx;refine⟨u,r,.inr ⟨?_,?_⟩⟩
    .rcases e3 with z | z | z
     .exact absurd z (qeO y4)
     .exact .inl z
     .exact .inr z
    .obtain⟨c,hcl⟩:=h2 x y3
     refine⟨c,hcl,?_⟩;rcases l with⟨k,_⟩ | ⟨_,c',hc',o,ho,hd⟩
     .rcases kx with z | z<;>(rw[z] at k;cases k)
     .have:c=c':=Option.some.inj ((h1 x c hcl).symm.trans hc')
      subst this;exact⟨o,old c o ho,hd⟩
  .obtain⟨v,o,ho,hd⟩:=I.cell x c (h1 x c e)
   exact⟨v,o,old c o ho,hd⟩
 -- the loop
 have stat:∀{pn:List (Addr×Obj)}{H':Hp},(∀b∈fp,H' b=none)->(∀p∈pn,s.heap.objs.size<=p.1)->∀b∈fp,qhL (blk X N scope cl G.objs.size s H fp) pn H' b:=λ{pn H'} hn hpn b hb =>
  ⟨hn b hb,ydx (ybp (fpD b hb) hlt),λhz=>(YOk.exfs b hb hz).elim,.inl hb,λx c e z=>(hf b hb).2.2.2.2.1 x c (h1 x c e) z,λp hp z=>by
   have hp':p∈pn:=by simpa[blk] using hp
   have:=hpn p hp';rw[z] at this;exact absurd (yae (fpD b hb) this) (yen _)⟩
 have hDf:s.heap.objs.size∉fp:=λhm=>yen _ (fpD _ hm)
 have hDs:s.heap.objs.size∉frs X.stack:=λhm=>by
  rcases ybf.mp (I.stkSub _ hm) with z | z
  .exact absurd I.lt (by rw[<-z];exact yen _)
  .exact I.nofs (yaz _) z
 have loop:∀s₃:Shared,s₃={ s with heap:=h₁,toks:=s.toks+([]:List (Str×Value)).length } ->
  codeAny (model X.prog X.w) X.A (.compLoop (.ListComp elt [⟨tg,iter,ifs,0⟩] scope pos) 0 (.ref it) (.ref s.heap.objs.size) (compEnvC scope cl G.objs.size X.env)) (RR (.ref s.heap.objs.size) G.objs.size) s₃:=by
  rintro s₃ rfl
  refine qeD (λn s'=>∃i ys its k H',Inv (blk X N scope cl G.objs.size s H fp) [] (qa2 nt caps σ) H' s'/\tn i s'.heap/\(∀b∈fp,H' b=none)/\qaN ys its /\
   s'.heap.get? s.heap.objs.size=some { cls := .type "list",data := .seq its.toArray k }/\H' s.heap.objs.size=none/\ys.length<=sizeLine/\W i n ys H') ?_ m0
   ⟨0,[],[],0,H,IY,T.keep _ _ _ st λb hb o e=>old b o e,λb hb=>(hf b hb).1,.nil,hacc,I.hok.fresh (yaz _),ybz _,w0⟩
  rintro n s3 ⟨i,ys,its,k,H3,I3,st3,fr3,v3,a3,n3,z3,w3⟩
  have I3p:Inv (blk X N scope cl G.objs.size s H fp) [(s.heap.objs.size,{ cls := .type "list",data := .seq its.toArray k })] (qa2 nt caps σ) H3 s3:=I3.pins_of λp hp=>by
   have e:p=(s.heap.objs.size,{ cls := .type "list",data := .seq its.toArray k }):=by simpa using hp
   subst e;exact⟨a3,n3,hDC,hDs,λv z=>by cases z⟩
  have pn3:∀p∈[(s.heap.objs.size,({ cls := .type "list",data := .seq its.toArray k }:Obj))],s.heap.objs.size<=p.1:=λp hp=>by
   have e:p=(s.heap.objs.size,{ cls := .type "list",data := .seq its.toArray k }):=by simpa using hp
   subst e;exact yaz _
  rcases turn i n ys H3 w3 with⟨stop,zz⟩ | ⟨go,hlen,step⟩
  .refine thn (T.done (blk X N scope cl G.objs.size s H fp) rfl rfl rfl hc i _ s3 _ H3 _ I3p (stat fr3 pn3) st3 stop) λr s4 ⟨hr,I4⟩=>?_
   subst hr;have a4:=I4.pin (s.heap.objs.size,{ cls := .type "list",data := .seq its.toArray k }) (yev _ (by simp));exact hRR _ s4 ys its k H3 hlt v3 (I4.pins_of λ_ hp=>nomatch hp) a4.1 n3 zz
  .refine thn (T.item (blk X N scope cl G.objs.size s H fp) rfl rfl rfl hc i _ s3 _ H3 _ I3p (stat fr3 pn3) st3 go) λr s4 ⟨u,hr,h4⟩=>?_
   subst hr;refine thn h4 λ_ s5 ⟨x,H5,I5,r5,y5,st5,fr5⟩=>?_;have I5':=I5.pinned (stat fr5 pn3) (T.obj _ _ st5);refine thn (hg _ _ _ _ _ _ s5 _ H5 x u _ I5' r5 (hgk _ _ _ _ (step x H5 y5))) λ_ s6 ⟨σ6,H6,I6,kp6,q6⟩=>?_;refine thn (ht _ _ _ _ _ _ s6 σ6 H6 _ I6 q6) λb s7 ⟨H7,I7,q7⟩=>?_
   have back:∀{H8:Hp}{s8:Shared},Inv (blk X N scope cl G.objs.size s H fp) ([(s.heap.objs.size,({ cls := .type "list",data := .seq its.toArray k }:Obj))]++qgn fp s5.heap) σ6 H8 s8 ->
    Inv (blk X N scope cl G.objs.size s H fp) [] (qa2 nt caps σ) H8 s8/\tn (i+1) s8.heap/\(∀b∈fp,H8 b=none)/\s8.heap.get? s.heap.objs.size=some { cls := .type "list",data := .seq its.toArray k }/\H8 s.heap.objs.size=none:=λ{H8 s8} I8=>by
    have a8:=I8.pin (s.heap.objs.size,{ cls := .type "list",data := .seq its.toArray k }) (yev _ (yau _ (by simp)));refine⟨(I8.pins_of (pins':=[]) λ_ hp=>absurd hp (by simp)).weak (by rw[lenb,I8.len];rfl) kp6,T.keep _ _ _ st5 λb hb o e=>(I8.pin (b,o) (yev _ (yev _ (qbH hb e)))).1,λb hb=>?_,a8.1,a8.2.1⟩;obtain⟨o,e,d⟩:=T.obj _ _ st5 b hb;exact(I8.pin (b,o) (yev _ (yev _ (qbH hb e)))).2.1
   cases b with
   | false =>
    rw[if_neg (by intro z;cases z)] at q7⊢;obtain⟨m',hm,w7⟩:=q7;obtain⟨b1,b2,b3,b4,b5⟩:=back I7;exact⟨m',hm,i+1,ys,its,k,H7,b1,b2,b3,v3,b4,b5,z3,w7⟩
   | true =>
    rw[if_pos rfl] at q7⊢;refine thn (he _ _ _ _ _ _ s7 σ6 H7 _ I7 q7) λu8 s8 ⟨y,H8,I8,r8,m',hm,w8⟩=>?_;obtain⟨b1,b2,b3,b4,b5⟩:=back I8;have hl:=v3.length;refine call_meets F.slot_list_append ⟨_,b4,rfl⟩ F.entry_list_append (F.args_list_append_2 _ _) (PySem.list_append s.heap.objs.size its.toArray k u8 (by rw[yfh];omega)) ⟨b4,?_⟩;have q:=PySem.IsL.update (show PySem.IsL s8.heap s.heap.objs.size its.toArray k from b4) (λx=>x.push u8);have eq:its.toArray.push u8=(its++[u8]).toArray:=by simp
    rw[eq] at q
    have keep:∀b' o,b'≠s.heap.objs.size->s8.heap.get? b'=some o->(s8.heap.update s.heap.objs.size (Obj.mapSeq λx=>x.push u8)).get? b'=some o:=λb' o hb hu =>
     (yeg s8.heap (Obj.mapSeq λx=>x.push u8) (Ne.symm hb)).trans hu
    refine⟨m',hm,i+1,ys++[y],its++[u8],_,H8,b1.turned (t':=s8.toks) keep b5 hDC (.inr (yaz _)) (λx c e z=>?_) (λp hp=>by simp[blk] at hp),T.keep _ _ _ b2 λb hb o e=>keep b o (λz=>hDf (z▸hb)) e,b3,
     v3.append (.cons r8 .nil),q,b5,?_,w8⟩
    .exact absurd (celt x c e) (by rw[z];exact yen _)
    .rw[ydq,yfn];omega
 exact codeAny_compStart_list (loop _ rfl) (T.self _ 0 _ _ _ (T.keep _ _ _ st λb hb o e=>old b o e) (loop _ rfl))
theorem qhS {pins:List (Addr×Obj)}{σ:St}{H H':Hp}{s s':Shared}{fp:List Addr}{C:Addr}{ys:List V}{its:List Value}{n:Nat}{σb:St}{h':Heap}
 (I:Inv X pins σ H s)(hf:∀b∈fp,qhL X pins H b)(hC:s.heap.objs.size<C)(v:qaN ys its)(hz:ys.length<=sizeLine)(IY:Inv (blk X N scope cl C s H fp) [] σb H' s')
 (e:s'.heap.get? s.heap.objs.size=some { cls := .type "list",data := .seq its.toArray n })(en:H' s.heap.objs.size=none)(hs:∀b o,b≠C->s'.heap.get? b=some o->h'.get? b=some o) :
 Inv X pins σ (upd H' s.heap.objs.size (.lst ys)) { s' with heap:=h' }:=by
 have hCn:H' C=none:=IY.free
 have hok:HOk X.prog X.w H' h':=λb u q=>by
  have nC:∀c u',H' c=some u'->c≠C:=λc u' q' z=>by rw[z,hCn] at q';cases q'
  refine(IY.hok b u q).stay (λc w' hc q'=>hs c w' ?_ q') (λ_ q'=>q') λ_ _ q'=>q';rcases hc with z | z
  .rw[z];exact nC b u q
  .exact nC c _ z
 have lt:∀b o,s.heap.get? b=some o->b≠C:=λb o q=>ydx (ybp (ydv q) hC)
 have u:Un (frs X.stack) fp H H' s.heap h':=⟨λb o q nn hb hx=>hs b o (lt b o q) (IY.base.keep b o q nn hb hx),λb o q nn hb hx=>by
  obtain⟨sl,q'⟩:=IY.base.slot b o q nn hb hx;exact⟨sl,hs b _ (lt b o q) q'⟩,IY.base.free,λb o q hx=>by
  obtain⟨o',q'⟩:=IY.base.there b o q hx;exact⟨o',hs b o' (lt b o q) q'⟩,IY.base.tups,IY.base.frzs,IY.base.tbls⟩
 have I1:Inv X pins σ H' { s' with heap:=h' }:=I.call' (s':={ s' with heap:=h' }) (ch:=fp) IY.os u hok IY.bare λb hb=>⟨(hf b hb).2.2.2.1,(hf b hb).2.1,(hf b hb).2.2.2.2.1,(hf b hb).2.2.2.2.2⟩;have hD:h'.get? s.heap.objs.size=some { cls := .type "list",data := .seq its.toArray n }:=hs _ _ (ydx hC) e
 exact I1.track (by
  have f:=I.fpOk (H':=H') (b:=s.heap.objs.size) (yaz _) en;exact f) ⟨hz,its,n,v,hD⟩
theorem qaH (ok:qjs X N nt caps scope)(hc:X.calm=true)(hi:PI X tg iter wi)
 (hg:∀cl C s H fp,PG (blk X N scope cl C s H fp) tg g)(hgk:qiw nt g)(ht:∀cl C s H fp,PTs (blk X N scope cl C s H fp) ifs tt)(he:∀cl C s H fp,PE (blk X N scope cl C s H fp) elt te)
 (hs:∀x,foldedSetIterable iter X.env x=pure x:=by intro _;rfl):PE X (.ListComp elt [⟨tg,iter,ifs,0⟩] scope pos) (qfY nt caps wi g tt te):=by
 intro pins s σ H Q I h;obtain⟨cl,hcl,h1,h2⟩:=qcM (scope:=scope) (env:=X.env) λn hn=>I.ok.has n (ok.free n hn);rw[eval_ListComp];refine wpAny_comprehension_free (use:=none) rfl hs hcl ok.kind ok.names (thn (hi pins s σ H _ I h) λxv s1 h1'=>thn h1' λitv s2 h2'=>?_);obtain⟨it,fp,tn,J,H2,e,I2,T,st2,f2,W,⟨m0,w0⟩,turn⟩:=h2';subst e;refine qjX (RR:=λacc C=>compPost (model X.prog X.w) X.A X.xe none (EP X pins σ Q) acc C) ok hc h1 h2 hg hgk ht he I2 T st2 f2 W (λys H'=>ys.length<=sizeLine/\∀p,H' p=none->Q (.ref p) (upd H' p (.lst ys))) m0 w0 turn ?_;intro C s' ys its n H' hC v IY e en zz;obtain⟨m,hn,_⟩:=IY.loc;exact⟨m,hn,λh' hs'=>⟨.ref s2.heap.objs.size,_,qhS I2 f2 hC v zz.1 IY e en (λb o hb q=>hs'.extBut b o hb q),rfl,zz.2 _ en⟩⟩
theorem qbs {i:Nat}{y:Str}{py spos:Pos}(hN:X.N.Nodup)(hyi:X.N[i]?=some y)(hy:X.env.scope.names.lookup y=some .local)(hsw:swapsWith (.ListComp elt [⟨tg,iter,ifs,0⟩] scope pos) (some (.Name y py)) spos.line X.env=pure true)
 (ok:qjs X N nt caps scope)(hc:X.calm=true)(hi:PI X tg iter wi)
 (hg:∀cl C s H fp,PG (blk X N scope cl C s H fp) tg g)(hgk:qiw nt g)(ht:∀cl C s H fp,PTs (blk X N scope cl C s H fp) ifs tt)(he:∀cl C s H fp,PE (blk X N scope cl C s H fp) elt te)
 (hs:∀x,foldedSetIterable iter X.env x=pure x:=by intro _;rfl):PS X (.Assign [.Name y py] (.ListComp elt [⟨tg,iter,ifs,0⟩] scope pos) spos) (qsR (qfY nt caps wi g tt te) (qh4 i)):=by
 intro pins s σ H D I h;obtain⟨cl,hcl,h1,h2⟩:=qcM (scope:=scope) (env:=X.env) λn hn=>I.ok.has n (ok.free n hn);rw[exec_Assign_Name_used _ _ _ _ hsw];refine wpAny_bind (wpAny_standAt (wpAny_bind ?_));show wpAny _ X.A (do let _ <-comprehension (.ListComp elt [⟨tg,iter,ifs,0⟩] scope pos) scope X.env _ (newList []) false (eval iter X.env) (some (assign (.Name y py) X.env))) _ _ s
 refine wpAny_bind (wpAny_mono (wpAny_comprehension_free (use:=some (assign (.Name y py) X.env)) (Q:=λ_ s'=>SP X pins D .next s') rfl hs hcl ok.kind ok.names
  (thn (hi pins s σ H _ I h) λxv s1 h1'=>thn h1' λitv s2 h2'=>?_)) (λ_ s' hq=>wpAny_pure (wpAny_pure hq)) λ_ _ e=>e)
 obtain⟨it,fp,tn,J,H2,e,I2,T,st2,f2,W,⟨m0,w0⟩,turn⟩:=h2';subst e
 refine qjX (RR:=λacc C=>compPost (model X.prog X.w) X.A X.xe (some (assign (.Name y py) X.env)) (λ_ s'=>SP X pins D .next s') acc C) ok hc h1 h2 hg hgk ht he I2 T st2 f2 W
  (λys H'=>ys.length<=sizeLine/\∀p,H' p=none->qh4 i (.ref p) σ (upd H' p (.lst ys)) D.nx) m0 w0 turn ?_
 intro C s' ys its n H' hC v IY e en zz;obtain⟨m,hn,_⟩:=IY.loc;have I3:Inv X pins σ (upd H' s2.heap.objs.size (.lst ys)) s':=qhS (h':=s'.heap) I2 f2 hC v zz.1 IY e en λb o hb q=>q;obtain⟨o,es,ep,ho,r⟩:=id hn
 have fC:qhL X pins (upd H' s2.heap.objs.size (.lst ys)) C:=by
  have f:=I2.fpOk (H':=H') (b:=C) (ydc hC) IY.free;refine⟨by rw[qay (Ne.symm (ydx hC))];exact IY.free,f.2⟩
 show wpAny (model X.prog X.w) X.A (assign (.Name y py) X.env (.ref s2.heap.objs.size)) (λ_ s''=>∃m,s''.heap.Ns C m/\∀h',Heap.SameBut C s''.heap h'->SP X pins D .next { s'' with heap:=h' }) X.xe s'
 have I3p:Inv X (pins++[(C,o)]) σ (upd H' s2.heap.objs.size (.lst ys)) s':=I3.pins_of λp hp=>by
  rcases yav.mp hp with z | z
  .exact I3.pin p (yev _ z)
  .have e:p=(C,o):=by simpa using z
   subst e;exact⟨ho,fC.1,fC.2.1,fC.2.2.1,λv z=>by rw[r.1] at z;cases z⟩
 refine wpAny_assign_Name (qgx I3p hN hyi (.inl hy) (v := .ref s2.heap.objs.size) rfl (λs4 I4=>?_) (.inr hy));have a4:=I4.pin (C,o) (yev _ (yev _ (by simp)));refine⟨m,⟨o,es,ep,a4.1,r⟩,λh' hs'=>⟨_,_,?_,zz.2 _ en⟩⟩;exact(I4.unpinned).turned (t':=s4.toks) (λb o' hb q=>hs'.extBut b o' hb q) fC.1 fC.2.1 fC.2.2.2.1 fC.2.2.2.2.1 fC.2.2.2.2.2
end
end L2
namespace L2
open PySem PySem.Spec PyProof.Rows
structure Cal (P:Program)(w:World)(K:PySem.W.Frag)(mg:Str->Option Value)(base:Heap)(x:Str)(k:Nat)(ps:List Str)(sp:Sp)(f:Addr)(fd:FuncData):Prop where
 ok:qaM P w K mg base CX0 k f fd ps sp
 mg:mg x=some (.ref f)
 kp:PySem.W.keepIn K (.ref f)=true
 bd:qdA K fd ps []
section
variable {X:Cx}{x:Str}{p pos:Pos}{e:Expr}{es:List Expr}{t:TA}{k j:Nat}{ps:List Str}{sp:Sp}{f:Addr}{fd:FuncData}
theorem qoQ (C:Cal X.prog X.w X.K X.mg X.base x k ps sp f fd)(hr:qdE j X.A)(hj:k<=j)(hg:Gl X x)(ha:PA X (e::es) t)(hdb:(x==("__debug__" : Str))=false:=by decide)
 (he:starEach (e::es) X.env=(false,eval e X.env)::starEach es X.env:=by rfl)(hpl:(backTo pos (starEach es X.env)).any (·.1)=false:=by rfl) :
 PE X (.Call (.Name x p) (e::es) [] pos) (qn6 sp [] E0 t):=qqn C.ok (hr.mono hj) hg C.mg C.kp C.bd .nil qqP ha hdb he hpl
end
section
variable {X:Cx}
def qqa (i j:Int):Prop:=0<j/\j<2^200
theorem qqa.log {i j:Int}(h:qqa i j):j.natAbs.log2<9000:=by
 have h1:0<j:=h.1;have h2:j<2^200:=h.2;have h3:j.natAbs<2^200:=by omega
 have h4:j.natAbs≠0:=by omega
 have:=(Nat.log2_lt h4).mpr h3;omega
theorem qbd:OpR X (binaryOp .FloorDiv) (rI qqa λi j => .int (i/j)):=opI λi j _ _ _ _ _ hc q=>by
 have h1:(0:Int)<j:=hc.1;exact floordiv_int (by omega) (by rw[yex i (by omega)];exact q) (.inl (PyProof.noPylong_of_log2 hc.log))
def qln (H:Hp):V->Option String
 | .non=>some "NoneType"
 | .bl _=>some "bool"
 | .int _=>some "int"
 | .str _=>some "str"
 | .ref a=>match H a with
  | some (.lst _)=>some "list"
  | some (.frz _ (.lst _))=>some "list"
  | some (.tup _)=>some "tuple"
  | some (.dK _)=>some "dict"
  | _=>none
 | _=>none
def qng (t c:String):Bool:=t==c||(t == "bool" && c == "int")
theorem qrb (K:PySem.W.Frag):∀t∈["NoneType", "bool", "int", "str", "list", "tuple", "dict"],∀c∈["int", "bool", "list", "tuple", "str"],PySem.W.kitOne K (.type t) (.type c)=some (qng t c):=by
 intro t ht c hc;simp only[ybf,ydz,or_false] at ht hc;rcases ht with rfl | rfl | rfl | rfl | rfl | rfl | rfl<;>rcases hc with rfl | rfl | rfl | rfl | rfl<;>rfl
theorem qq8 {K:PySem.W.Frag}{H:Hp}{x:V}{t:String}(h:qln H x=some t):qkq K H x (.type t)/\t∈["NoneType", "bool", "int", "str", "list", "tuple", "dict"]:=by
 cases x with
 | non=>cases h;exact⟨.non,by decide⟩
 | bl b=>cases h;exact⟨.bl b,by decide⟩
 | int i=>cases h;exact⟨.int i,by decide⟩
 | str z=>cases h;exact⟨.str z,by decide⟩
 | ref a =>
  unfold qln at h;dsimp only at h;split at h
  .rename_i e;cases h;exact⟨.lst e,by decide⟩
  .rename_i e;cases h;exact⟨.frz e,by decide⟩
  .rename_i e;cases h;exact⟨.tup e,by decide⟩
  .rename_i e;cases h;exact⟨.dK e,by decide⟩
  .cases h
 | _=>cases h
def qk6:List V->Hp->VK->Prop:=λxs H Q=>∃x c t,xs=[x,.ty c]/\qln H x=some t/\c∈["int", "bool", "list", "tuple", "str"]/\Q (.bl (qng t c)) H
theorem qbL:qcl X (.builtin "isinstance") qk6:=by
 intro pins s σ H xs us Q I r h;obtain⟨x,c,t,rfl,hk,hc,q⟩:=h;obtain⟨u,w',rfl,rx,ry⟩:=qod r;cases(show w'=Value.type c from ry);obtain⟨ty,ht⟩:=qq8 (K:=X.K) hk;exact qly I rx ty (qrb X.K t ht c hc) λtk=>⟨.bl _,H,I.tok _,rfl,q⟩
def qgm (xs ys:List V):Bool:=xs.length==ys.length&&(List.range xs.length).all λj=>eqV (xs.getD j .non) (ys.getD j .non)
theorem qlb (ns ms:List Int):qgm (ns.map V.int) (ms.map V.int)=decide (ns=ms):=by
 unfold qgm;rw[ycd,ycd];by_cases hl:ns.length=ms.length
 .rw[show(ns.length==ms.length)=true by simpa using hl,yfw]
  rw[yax,ybh,decide_eq_true_eq];constructor
  .intro h
   refine yej hl λi h1 h2=>?_;have q:=h i (ybj.mpr h1);simpa[List.getD,h1,h2,eqV] using q
  .rintro rfl j hj
   have hj':=ybj.mp hj;simp[List.getD,hj',eqV]
 .rw[show(ns.length==ms.length)=false by simpa using hl,yeu]
  exact(decide_eq_false λe=>hl (by rw[e])).symm
def qru (K:PySem.W.Frag):R2:=λx y H Q=>∃a b xs ys,x = .ref a/\y = .ref b/\SqL K H a xs/\SqL K H b ys/\xs.all qbB=true/\ys.all qbB=true/\Q (.bl (qgm xs ys)) H
def qs0 (K:PySem.W.Frag):R2:=λx y H Q=>∃a b xs ys,x = .ref a/\y = .ref b/\SqL K H a xs/\SqL K H b ys/\xs.all qbB=true/\ys.all qbB=true/\Q (.bl (!qgm xs ys)) H
theorem qhH {A:Around}{s:Shared}{xs ys:List V}{us ws:List Value}(rx:qaN xs us)(ry:qaN ys ws)(fx:xs.all qbB=true)(fy:ys.all qbB=true)(j:Nat)(h1:j<us.toArray.size)(h2:j<ws.toArray.size) :
 SeqAt.EqAt A s us.toArray[j] ws.toArray[j] (eqV (xs.getD j .non) (ys.getD j .non)):=by
 have l1:=rx.length;have l2:=ry.length;rw[yfh] at h1 h2;have e1:xs[j]?=some (xs.getD j .non):=by rw[ycj,yck (by omega)];rfl
 have e2:ys[j]?=some (ys.getD j .non):=by rw[ycj,yck (by omega)];rfl
 obtain⟨u,hu,ru⟩:=rx.get e1;obtain⟨v,hv,rv⟩:=ry.get e2
 have g1:us.toArray[j]=u:=by
  rw[yfx];exact Option.some.inj ((yck h1).symm.trans hu)
 have g2:ws.toArray[j]=v:=by
  rw[yfx];exact Option.some.inj ((yck h2).symm.trans hv)
 rw[g1,g2];exact qo0 ru rv (ybh.mp fx _ (ycl e1)) (ybh.mp fy _ (ycl e2))
theorem qsF (hu:X.A.units<cLine):OpR X (compareOp .Eq) (qru X.K):=by
 intro pins s σ H x y v u Q I rx ry h;obtain⟨a,b,xs,ys,rfl,rfl,ha,hb,fx,fy,q⟩:=h;cases rx;cases ry;obtain⟨us,r1,p1,z1⟩:=I.list ha;obtain⟨ws,r2,p2,z2⟩:=I.list hb;have l1:=r1.length;have l2:=r2.length;by_cases hl:xs.length=ys.length
 .refine SeqAt.eq_listAt p1.isList p2.isList (by simp only[yfh];omega) hu (λj h1 h2=>qhH r1 r2 fx fy j h1 h2) ⟨.bl _,H,I,rfl,?_⟩
  have e:qgm xs ys=(List.range us.toArray.size).all λj=>eqV (xs.getD j .non) (ys.getD j .non):=by
   unfold qgm;rw[show(xs.length==ys.length)=true by simpa using hl,yfw,yfh,l1]
  rw[<-e];exact q
 .refine SeqAt.eq_list_lengthsAt p1.isList p2.isList (by simp only[yfh,bne_iff_ne];omega) hu ⟨.bl _,H,I,rfl,?_⟩
  have e:qgm xs ys=false:=by
   unfold qgm;rw[show(xs.length==ys.length)=false by simpa using hl,yeu]
  rw[<-e];exact q
theorem qsM (hu:X.A.units<cLine):OpR X (compareOp .NotEq) (qs0 X.K):=by
 intro pins s σ H x y v u Q I rx ry h;obtain⟨a,b,xs,ys,rfl,rfl,ha,hb,fx,fy,q⟩:=h;cases rx;cases ry;obtain⟨us,r1,p1,z1⟩:=I.list ha;obtain⟨ws,r2,p2,z2⟩:=I.list hb;have l1:=r1.length;have l2:=r2.length;by_cases hl:xs.length=ys.length
 .refine SeqAt.RcNeAt.lists p1.isList p2.isList (by simp only[yfh];omega) hu (λj h1 h2=>qhH r1 r2 fx fy j h1 h2) X.prog X.w _ _ ⟨.bl _,H,I,rfl,?_⟩
  have e:qgm xs ys=(List.range us.toArray.size).all λj=>eqV (xs.getD j .non) (ys.getD j .non):=by
   unfold qgm;rw[show(xs.length==ys.length)=true by simpa using hl,yfw,yfh,l1]
  rw[<-e];exact q
 .refine SeqAt.RcNeAt.lists_lengths p1.isList p2.isList (by simp only[yfh,bne_iff_ne];omega) hu X.prog X.w _ _ ⟨.bl _,H,I,rfl,?_⟩
  have e:qgm xs ys=false:=by
   unfold qgm;rw[show(xs.length==ys.length)=false by simpa using hl,yeu]
  rw[e] at q;exact q
def qqy (K:PySem.W.Frag):R2:=λx y H Q=>∃l b xs zs,x = .ref l/\y = .ref b/\SqL K H l xs/\SqL K H b zs/\xs.length+zs.length<=sizeLine/\∀p,H p=none->Q (.ref p) (upd H p (.lst (xs++zs)))
theorem qpI:OpR X (binaryOp .Add) (qqy X.K):=by
 intro pins s σ H x y v u Q I rx ry h;obtain⟨l,b,xs,zs,rfl,rfl,hl,hb,hz,q⟩:=h;cases rx;cases ry;obtain⟨us,r1,p1,z1⟩:=I.list hl;obtain⟨ws,r2,p2,z2⟩:=I.list hb;obtain⟨⟨c1,d1,t1,s1⟩,n1,e1,ec1,ed1,et1⟩:=p1;obtain⟨⟨c2,d2,t2,s2⟩,n2,e2,ec2,ed2,et2⟩:=p2;simp only at ec1 ed1 et1 ec2 ed2 et2;subst ec1 ed1 et1 ec2 ed2 et2;have l1:=r1.length;have l2:=r2.length;refine concat_meets ⟨_,e1,rfl⟩ ⟨_,e2,rfl⟩ noFill_list_add seq_list_add PySem.F.slot_list_add PySem.F.entry_list_add (PySem.F.args_list_add_2 _ _) (list_addW l b us.toArray ws.toArray n1 n2 none none s1 s2 (by simp only[yfh];omega)) ⟨e1,e2,?_⟩;have ea:us.toArray++ws.toArray=(us++ws).toArray:=by simp
 rw[ea];exact⟨.ref _,_,I.lnew (t':=s.toks) (r1.append r2) (by rw[ydq];omega),rfl,q _ I.fresh⟩
def qt3:V->V->Bool
 | .bl _,.bl _=>true
 | .non,.bl _=>true
 | .bl _,.non=>true
 | .non,.non=>true
 | .int _,.bl _=>true
 | .int _,.non=>true
 | .str _,.bl _=>true
 | .str _,.non=>true
 | .ref _,.bl _=>true
 | .ref _,.non=>true
 | _,_=>false
theorem qs2 {x y:V}{v u:Value}(rx:qbc x v)(ry:qbc y u)(h:qt3 x y=true):plainIs v u=true/\(v==u)=decide (x=y):=by
 cases x<;>cases y<;>first
  | exact absurd (show false=true from h) yet
  | (cases rx;cases ry;exact⟨rfl,rfl⟩)
  | (cases rx;cases ry;rename_i a b;cases a<;>cases b<;>exact⟨rfl,rfl⟩)
  | (obtain⟨t,rfl⟩:=rx;cases ry;exact⟨rfl,rfl⟩)
theorem qhK:OpR X (compareOp .Is) (λx y H Q=>qt3 x y=true/\Q (.bl (decide (x=y))) H):=by
 intro pins s σ H x y v u Q I rx ry h;obtain⟨e1,e2⟩:=qs2 rx ry h.1;exact wpAny_is_plain e1 ⟨.bl _,H,I,by rw[e2];rfl,h.2⟩
theorem qlo:OpR X (compareOp .IsNot) (λx y H Q=>qt3 x y=true/\Q (.bl (!decide (x=y))) H):=by
 intro pins s σ H x y v u Q I rx ry h;obtain⟨e1,e2⟩:=qs2 rx ry h.1;exact wpAny_isNot_plain e1 ⟨.bl _,H,I,by rw[e2];rfl,h.2⟩
theorem qmJ:MtR X "int.bit_length" (λx vs H Q=>∃i,x = .int i/\vs=[]/\Q (.int (Builtin.Int.intBits i)) H):=by
 intro pins s σ H x vs v us Q I rx rv h;obtain⟨i,rfl,rfl,q⟩:=h;obtain⟨t,rfl⟩:=rx;cases rv;exact call_int_bit_length ⟨.int _,H,I.tok _,⟨_,rfl⟩,q⟩
theorem qc9 {x:Str}{i:Int}{p:Pos}(h:∃t,X.mg x=some (.int i t))(hg:Gl X x)(hd:(x==("__debug__" : Str))=false:=by decide):PE X (.Name x p) (tC (.int i)):=by
 obtain⟨t,h⟩:=h;exact qey hg h ⟨t,rfl⟩ hd
theorem quM {CX:CXT}{P:Program}{w:World}{K:PySem.W.Frag}{mg:Str->Option Value}{base:Heap}{N:List Str}{qual:Str}{scope:Scope}{f:Addr}{cd:Value}{A:Around}{outer:List Env}{s:Shared}{H:Hp}{E:XK} :
 (qqL CX P w K mg base N qual scope f cd A outer s H E).K=K:=rfl
theorem qaX {K:PySem.W.Frag}{H:Hp}{a:Addr}{xs:List V}(h:H a=some (.lst xs)):tyV K "list" (.ref a) H := .inl ⟨rfl,xs,SqL.of h⟩
theorem qqT {K:PySem.W.Frag}{H:Hp}{a:Addr}{xs:List V}:tyV K "list" (.ref a) (upd H a (.lst xs))↔True:=⟨λ_=>trivial,λ_=>qaX qag⟩
theorem qrS {H:Hp}{a:Addr}{xs:List V}(h:H a=some (.lst xs)):qln H (.ref a)=some "list" := by unfold qln;dsimp only;rw[h]
theorem qar.upd {H H':Hp}{a:Addr}{o:HO}(e:qar H H')(h:H a=none):qar H (L2.upd H' a o):=λb u q=>by
 rw[qay (λz=>by rw[z,h] at q;cases q)];exact e b u q
theorem qar.new {H:Hp}{a:Addr}{o:HO}(h:H a=none):qar H (L2.upd H a o):=(qar.refl H).upd h
section
variable {K:PySem.W.Frag}{H:Hp}{Q:VK}{i j:Int}{a:Addr}{b c:Bool}{z z':Str}{y:V}{g:Int->Int->V}
theorem qpO:qqy K (.int i) y H Q↔False:=⟨λ⟨_,_,_,_,e,_⟩=>(nomatch e),False.elim⟩
theorem qsk:qru K (.int i) y H Q↔False:=⟨λ⟨_,_,_,_,e,_⟩=>(nomatch e),False.elim⟩
theorem qrx:qru K (.bl b) y H Q↔False:=⟨λ⟨_,_,_,_,e,_⟩=>(nomatch e),False.elim⟩
theorem qrK:qru K (.str z) y H Q↔False:=⟨λ⟨_,_,_,_,e,_⟩=>(nomatch e),False.elim⟩
theorem qr7:qru K .non y H Q↔False:=⟨λ⟨_,_,_,_,e,_⟩=>(nomatch e),False.elim⟩
theorem qs6:qs0 K (.int i) y H Q↔False:=⟨λ⟨_,_,_,_,e,_⟩=>(nomatch e),False.elim⟩
theorem qsX:qs0 K (.bl b) y H Q↔False:=⟨λ⟨_,_,_,_,e,_⟩=>(nomatch e),False.elim⟩
theorem qrT:qs0 K (.str z) y H Q↔False:=⟨λ⟨_,_,_,_,e,_⟩=>(nomatch e),False.elim⟩
theorem qs9:qs0 K .non y H Q↔False:=⟨λ⟨_,_,_,_,e,_⟩=>(nomatch e),False.elim⟩
theorem quh:rEq (.ref a) y H Q↔False:=⟨λ⟨e,_⟩=>by cases y<;>exact absurd (show false=true from e) yet,False.elim⟩
theorem qt0:rNe (.ref a) y H Q↔False:=⟨λ⟨e,_⟩=>by cases y<;>exact absurd (show false=true from e) yet,False.elim⟩
theorem qtX:rEq (.int i) (.int j) H Q↔Q (.bl (decide (i=j))) H:=by unfold rEq;simp[show qnq (.int i) (.int j)=true from rfl]
theorem qt4:rNe (.int i) (.int j) H Q↔Q (.bl (!decide (i=j))) H:=by unfold rNe;simp[show qnq (.int i) (.int j)=true from rfl]
theorem quk:rEq (.bl b) (.bl c) H Q↔Q (.bl (decide (b=c))) H:=by unfold rEq;simp[show qnq (.bl b) (.bl c)=true from rfl]
theorem qud:rNe (.bl b) (.bl c) H Q↔Q (.bl (!decide (b=c))) H:=by unfold rNe;simp[show qnq (.bl b) (.bl c)=true from rfl]
theorem qtW:rEq (.str z) (.str z') H Q↔Q (.bl (decide (z=z'))) H:=by unfold rEq;simp[show qnq (.str z) (.str z')=true from rfl]
theorem qtG:rNe (.str z) (.str z') H Q↔Q (.bl (!decide (z=z'))) H:=by unfold rNe;simp[show qnq (.str z) (.str z')=true from rfl]
theorem quj:rI0 g (.ref a) y H Q↔False:=⟨λ⟨_,_,e,_⟩=>(nomatch e),False.elim⟩
theorem qtY:rI0 g (.int i) (.int j) H Q↔Q (g i j) H:=⟨λ⟨_,_,e,e',q⟩=>by cases e;cases e';exact q,λq=>⟨i,j,rfl,rfl,q⟩⟩
theorem quJ {C:Int->Int->Prop}:rI C g (.int i) (.int j) H Q↔C i j/\Q (g i j) H:=⟨λ⟨_,_,e,e',q⟩=>by cases e;cases e';exact q,λq=>⟨i,j,rfl,rfl,q⟩⟩
theorem qjn {xs:List V}:qmj (.ref a) [y] (upd H a (.lst xs)) Q↔xs.length<sizeLine/\Q .non (upd H a (.lst (xs++[y]))):=by
 constructor
 .rintro⟨l,ys,v,e1,e2,e3,e4,q⟩
  cases e1;cases e2;rw[qag] at e3;cases e3;rw[qmu] at q;exact⟨e4,q⟩
 .rintro⟨e,q⟩
  exact⟨a,xs,y,rfl,rfl,qag,e,by rw[qmu];exact q⟩
theorem qaK (h0:0<=j)(h1:j<=1000)(h2:-1000<=i)(h3:i<=1000):qtM i j:=⟨h0,by omega,by omega⟩
end
def qcT (J:It)(g:TG)(tb:TS)(D:qfX)(σ:St)(H:Hp):Prop:=∃W:Nat->Nat->St->Hp->Prop,(∃m,W 0 m σ H)/\∀i m σ H,W i m σ H ->
 (J.stop i H/\D.nx σ H)\/(J.go i H/\∃N:St->Hp->Prop,(∀σ' H',N σ' H'->∃m',m'<m/\W (i+1) m' σ' H')/\∀x H',J.yld i H x H'->g x σ H' λσ2 H2=>tb { D with nx:=N,ct:=N,bk:=D.nx } σ2 H2)
def qcH (J:It)(nt:Nat)(caps:List Nat)(g:TG)(tt:TT)(te:TE)(σ:St)(H:Hp)(Q:VK):Prop:=∃W:Nat->Nat->List V->Hp->Prop,(∃m,W 0 m [] H)/\∀i m ys H2,W i m ys H2 ->
 (J.stop i H2/\ys.length<=sizeLine/\∀p,H2 p=none->Q (.ref p) (upd H2 p (.lst ys))) \/
 (J.go i H2/\ys.length<sizeLine/\∀x H3,J.yld i H2 x H3->g x (qa2 nt caps σ) H3 λσ4 H4=>tt σ4 H4 λb H5 =>
  if b=true then te σ4 H5 λy H6=>∃m',m'<m/\W (i+1) m' (ys++[y]) H6 else ∃m',m'<m/\W (i+1) m' ys H5)
section
variable {K:PySem.W.Frag}{g:TG}{tb:TS}{D:qfX}{σ:St}{H:Hp}{a:Addr}{xs:List V}{tl:TE}{ta:TA}{nt:Nat}{caps:List Nat}{tt:TT}{te:TE}{Q:VK}
theorem qs7:qnh (qoe K tl) g tb D σ H↔tl σ H λx H1=>∃a,x = .ref a/\(∃xs,SqL K H1 a xs)/\qcT (Itl K a) g tb D σ H1:=Iff.rfl
theorem qqD:qnh (qqB ta) g tb D σ H↔ta σ H λvs H1=>∃j:Int,vs=[.int j]/\-(2^62)<=j/\j<2^62/\qcT (Itr 0 j.toNat) g tb D σ H1:=Iff.rfl
theorem qq0:qnh (qqK ta) g tb D σ H↔ta σ H λvs H1=>∃i j:Int,vs=[.int i,.int j]/\(-(2^62)<=i/\i<2^62/\-(2^62)<=j/\j<2^62)/\qcT (Itr i (j-i).toNat) g tb D σ H1:=Iff.rfl
theorem qp8:qfY nt caps (qoe K tl) g tt te σ H Q↔tl σ H λx H1=>∃a,x = .ref a/\(∃xs,SqL K H1 a xs)/\qcH (Itl K a) nt caps g tt te σ H1 Q:=Iff.rfl
theorem qoG:qfY nt caps (qqB ta) g tt te σ H Q↔ta σ H λvs H1=>∃j:Int,vs=[.int j]/\-(2^62)<=j/\j<2^62/\qcH (Itr 0 j.toNat) nt caps g tt te σ H1 Q:=Iff.rfl
theorem qn9:qfY nt caps (qqK ta) g tt te σ H Q↔ta σ H λvs H1=>∃i j:Int,vs=[.int i,.int j]/\(-(2^62)<=i/\i<2^62/\-(2^62)<=j/\j<2^62)/\qcH (Itr i (j-i).toNat) nt caps g tt te σ H1 Q:=Iff.rfl
theorem qq2 (Pv:Nat->St->Hp->Prop)(h0:Pv 0 σ H)(hl:∀i σ H,i<=xs.length->Pv i σ H->SqL K H a xs)
 (hs:∀i x σ H,xs[i]?=some x->Pv i σ H->g x σ H λσ2 H2=>tb { D with nx:=Pv (i+1),ct:=Pv (i+1),bk:=D.nx } σ2 H2)(hd:∀σ H,Pv xs.length σ H->D.nx σ H):qcT (Itl K a) g tb D σ H:=qn5 Pv h0 hl hs hd
theorem qqp {lo:Int}{n:Nat}(Pv:Nat->St->Hp->Prop)(h0:Pv 0 σ H)
 (hs:∀i σ H,i<n->Pv i σ H->g (.int (lo+i)) σ H λσ2 H2=>tb { D with nx:=Pv (i+1),ct:=Pv (i+1),bk:=D.nx } σ2 H2)(hd:∀σ H,Pv n σ H->D.nx σ H):qcT (Itr lo n) g tb D σ H:=qk3 Pv h0 hs hd
end
section
variable {t u t' u':TS}{te:TE}{g:TG}{c:TT}{D:qfX}{σ:St}{H:Hp}{wi:TI}{tb:TS}
theorem qnO:qmV (qsR te g) u D σ H↔te σ H λx H1=>g x σ H1 (u D):=Iff.rfl
theorem qmA:qmV (qq3 te) u D σ H↔te σ H λ_ H1=>u D σ H1:=Iff.rfl
theorem qnE:qmV (qnh wi g tb) u D σ H↔qnh wi g tb { D with nx:=u D } σ H:=Iff.rfl
theorem qj7:qmV (qjz c tb) u D σ H↔qjz c tb { D with nx:=u D } σ H:=Iff.rfl
theorem qop:qmV (qr0 c (qt5 te) qlF) u D σ H↔c σ H λb H1=>if b=true then te σ H1 D.rt else u D σ H1:=Iff.rfl
theorem qp1:qr0 c t u D σ H↔c σ H λb H1=>if b=true then t D σ H1 else u D σ H1:=Iff.rfl
theorem qbb (I:St->Hp->Prop)(h2:∀σ' H',I σ' H'->u D σ' H')(h1:∀N:St->Hp->Prop,(∀σ' H',I σ' H'->N σ' H')->t { D with nx:=N } σ H):qmV t u D σ H:=h1 (u D) h2
end
theorem rdg {t:TS}{D:qfX}{σ σ':St}{H:Hp}(e:σ=σ')(h:t D σ' H):t D σ H:=e▸h
def qsf (K:PySem.W.Frag)(x y:V)(H:Hp)(b:Bool):Prop:=(qnq x y=true/\b=decide (x=y)) \/
 ∃a c xs ys,x = .ref a/\y = .ref c/\SqL K H a xs/\SqL K H c ys/\xs.all qbB=true/\ys.all qbB=true/\b=qgm xs ys
def qnY (K:PySem.W.Frag):R2:=λx y H Q=>∃b,qsf K x y H b/\Q (.bl b) H
def qni (K:PySem.W.Frag):R2:=λx y H Q=>∃b,qsf K x y H b/\Q (.bl (!b)) H
def quK (K:PySem.W.Frag)(x y:V)(H:Hp)(v:V):Prop:=(∃p xs i,x = .ref p/\y = .int i/\SqL K H p xs/\atI xs i=some v)\/∃p xs i,x = .ref p/\y = .int i/\SqT K H p xs/\atI xs i=some v
def qtK (K:PySem.W.Frag):R2:=λx y H Q=>∃v,quK K x y H v/\Q v H
section
variable {K:PySem.W.Frag}{H:Hp}{Q:VK}{i j:Int}{a c:Addr}{b b':Bool}{z z':Str}{xs ys:List V}
theorem qpa:qsf K (.int i) (.int j) H b↔b=decide (i=j):=by
 constructor
 .rintro(⟨_,e⟩ | ⟨_,_,_,_,e,_⟩)
  .rw[e];simp
  .cases e
 .intro e;exact .inl ⟨rfl,by rw[e];simp⟩
theorem qo7 {b'':Bool}:qsf K (.bl b') (.bl b) H b''↔b''=decide (b'=b):=by
 constructor
 .rintro(⟨_,e⟩ | ⟨_,_,_,_,e,_⟩)
  .rw[e];simp
  .cases e
 .intro e;exact .inl ⟨rfl,by rw[e];simp⟩
theorem qpC:qsf K (.str z) (.str z') H b↔b=decide (z=z'):=by
 constructor
 .rintro(⟨_,e⟩ | ⟨_,_,_,_,e,_⟩)
  .rw[e];simp
  .cases e
 .intro e;exact .inl ⟨rfl,by rw[e];simp⟩
theorem qto:qnY K (.int i) (.int j) H Q↔Q (.bl (decide (i=j))) H:=by unfold qnY;simp[qpa]
theorem qsg:qni K (.int i) (.int j) H Q↔Q (.bl (!decide (i=j))) H:=by unfold qni;simp[qpa]
theorem qr6:qnY K (.bl b) (.bl b') H Q↔Q (.bl (decide (b=b'))) H:=by unfold qnY;simp[qo7]
theorem qsU:qni K (.bl b) (.bl b') H Q↔Q (.bl (!decide (b=b'))) H:=by unfold qni;simp[qo7]
theorem qo3:qnY K (.str z) (.str z') H Q↔Q (.bl (decide (z=z'))) H:=by unfold qnY;simp[qpC]
theorem qoU:qni K (.str z) (.str z') H Q↔Q (.bl (!decide (z=z'))) H:=by unfold qni;simp[qpC]
theorem qgO (h1:SqL K H a xs)(h2:SqL K H c ys)(f1:xs.all qbB=true)(f2:ys.all qbB=true)(q:Q (.bl (qgm xs ys)) H):qnY K (.ref a) (.ref c) H Q:=⟨_,.inr ⟨a,c,xs,ys,rfl,rfl,h1,h2,f1,f2,rfl⟩,q⟩
theorem qqH (h1:SqL K H a xs)(h2:SqL K H c ys)(f1:xs.all qbB=true)(f2:ys.all qbB=true)(q:Q (.bl (!qgm xs ys)) H):qni K (.ref a) (.ref c) H Q:=⟨_,.inr ⟨a,c,xs,ys,rfl,rfl,h1,h2,f1,f2,rfl⟩,q⟩
theorem qaF {v:V}(h:SqL K H a xs)(e:atI xs i=some v)(q:Q v H):qtK K (.ref a) (.int i) H Q:=⟨v,.inl ⟨a,xs,i,rfl,rfl,h,e⟩,q⟩
theorem qbt {v:V}(h:SqT K H a xs)(e:atI xs i=some v)(q:Q v H):qtK K (.ref a) (.int i) H Q:=⟨v,.inr ⟨a,xs,i,rfl,rfl,h,e⟩,q⟩
theorem qav (h:X.K=K)(hu:X.A.units<cLine):OpR X (compareOp .Eq) (qnY K):=by
 subst h;intro pins s σ H x y v u Q I rx ry q;obtain⟨b,hb,q⟩:=q;rcases hb with⟨hs,rfl⟩ | ⟨a,c,xs,ys,rfl,rfl,h1,h2,f1,f2,rfl⟩
 .exact qtV pins s σ H x y v u Q I rx ry ⟨hs,q⟩
 .exact qsF hu pins s σ H _ _ v u Q I rx ry ⟨a,c,xs,ys,rfl,rfl,h1,h2,f1,f2,q⟩
theorem qbW (h:X.K=K)(hu:X.A.units<cLine):OpR X (compareOp .NotEq) (qni K):=by
 subst h;intro pins s σ H x y v u Q I rx ry q;obtain⟨b,hb,q⟩:=q;rcases hb with⟨hs,rfl⟩ | ⟨a,c,xs,ys,rfl,rfl,h1,h2,f1,f2,rfl⟩
 .exact qui pins s σ H x y v u Q I rx ry ⟨hs,q⟩
 .exact qsM hu pins s σ H _ _ v u Q I rx ry ⟨a,c,xs,ys,rfl,rfl,h1,h2,f1,f2,q⟩
theorem qb4 (h:X.K=K):OpR X (binaryOp .Add) (qqy K):=h▸qpI
theorem qlk (h:X.K=K):OpR X (compareOp .In) (rIn K false):=h▸ql2
theorem qiq (h:X.K=K):OpR X (compareOp .NotIn) (rIn K true):=h▸qid
theorem qqj {r r':R2}(h:IxR X r)(hr:∀x y H Q,r' x y H Q->r x y H Q):IxR X r' :=
 λvalue slice pins s σ H x y v u Q I rx ry q e=>h value slice pins s σ H x y v u Q I rx ry (hr _ _ _ _ q) e
theorem qaO (h:X.K=K):IxR X (qtK K):=by
 subst h;refine qqj qrY λx y H Q q=>?_;obtain⟨z,hz,q⟩:=q;rcases hz with⟨p,xs,i,e1,e2,e3,e4⟩ | ⟨p,xs,i,e1,e2,e3,e4⟩
 .exact .inl ⟨p,xs,i,z,e1,e2,e3,e4,q⟩
 .exact .inr (.inl ⟨p,xs,i,z,e1,e2,e3,e4,q⟩)
theorem qaB (h:X.K=K):qcl X (.builtin "len") (λxs H Q=>∃p ys,xs=[.ref p]/\(SqL K H p ys\/SqT K H p ys)/\Q (.int ys.length) H):=h▸qia
theorem qkF (h:X.K=K):SlR X (quC K):=h▸qqU
end
def sp1 (R:V->Hp->VK->Prop):Sp:=λvs H Q _=>∃a,vs=[a]/\R a H Q
def sp2 (R:V->V->Hp->VK->Prop):Sp:=λvs H Q _=>∃a b,vs=[a,b]/\R a b H Q
def sp3 (R:V->V->V->Hp->VK->Prop):Sp:=λvs H Q _=>∃a b c,vs=[a,b,c]/\R a b c H Q
def sp4 (R:V->V->V->V->Hp->VK->Prop):Sp:=λvs H Q _=>∃a b c d,vs=[a,b,c,d]/\R a b c d H Q
def qmD (K:PySem.W.Frag):Sp:=sp1 λx H Q=>∃(a:Addr) (ns:List Int),x = .ref a/\SqL K H a (ns.map V.int)/\ns.length<=63/\∀H',Q (.bl true) H'
end
end L2
namespace Tim
open PySem PyProof.Rows
section
variable {prog:Program}{w:World}{A:Around}{E:Value->Shared->Prop}{s:Shared}
theorem sort_any {a:Addr}{vs:List Value}{ns:List Int}{n:Nat}{P:Fin->Shared->Prop}(at0:s.heap.get? a=some (seqObj "list" vs.toArray n))(hI:IntsAre vs ns)(hz:vs.length<=63)
 (h:∀(out:Array Value) (ms:List Int),IntsAre out.toList ms->ms.Perm ns->ms.Pairwise (·<=·)->P (.done (.ret .none)) { s with heap:=sortedHeap s.heap a vs out }) :
 wpAny (model prog w) A (Builtin.«list.sort» ⟨[.ref a],[]⟩) P E s:=by
 exact list_sort_tree at0 hI (by omega) h
theorem sorted_any {l:Addr}{vs:List Value}{ns:List Int}{Q:Value->Shared->Prop}(hl:s.heap.IsList l vs.toArray)(hI:IntsAre vs ns)(hz:vs.length<=63)
 (h:∀(out:Array Value) (ms:List Int),IntsAre out.toList ms->ms.Perm ns->ms.Pairwise (·<=·)->Q (.ref (s.heap.objs.size+1)) { s with heap:=sortedAll s.heap vs out }) :
 wpAny (model prog w) A (call (.builtin "sorted") [.ref l]) Q E s:=by
 have lim:vs.length<=sizeLine:=by rw[sizeLine_eq];omega
 refine Calls.call_function_entry kind_sorted plain_sorted entry_sorted (args_sorted1 _) (wpAny_bind (m:=checkCount "sorted" 1 1 _) (wpAny_pure (wpAny_bind (collect_list hl (wpAny_bind (wpAny_newList ?_ lim)) lim))));have e:((s.heap.push (seqObj "list" #[] 0)).update s.heap.objs.size (Obj.mapSeq (·++vs.toArray))).objs.size=s.heap.objs.size+1:=by rw[Heap.size_update];exact size_push' _ _
 have at0:(((s.heap.push (seqObj "list" #[] 0)).update s.heap.objs.size (Obj.mapSeq (·++vs.toArray))).push (seqObj "list" vs.toArray 0)).get? (s.heap.objs.size+1)=some (seqObj "list" vs.toArray 0):=e▸ydt _ rfl;dsimp only;rw[e];exact wpAny_bind (wpAny_holding (wpAny_call_entry slot_list_sort ⟨_,at0,rfl⟩ entry_list_sort (sort_any at0 hI hz λout ms m1 m2 m3=>⟨_,rfl,wpAny_pure ⟨_,rfl,h out ms m1 m2 m3⟩⟩) (args_list_sort _)))
end
end Tim
namespace STb
open PySem PySem.SetTable PyProof.Rows
section
variable {prog:Program}{w:World}{A:Around}{E:Value->Shared->Prop}{s:Shared}{I S:Addr}
theorem qkd {ns:List Int}{Q:Value->Shared->Prop}(hh:A.handled=none)(r:RS prog w s.heap S ns)(hbig:ns.length<=63)
 (h:∀(l:Addr) (vs:List Value) (ms:List Int) (n:Nat) (s':Shared),IntsAre vs ms->ms.Perm ns->ms.Pairwise (·<=·)->s.heap.objs.size<=l->s'.heap.get? l=some { cls := .type "list",data := .seq vs.toArray n } ->
  (∀b o,s.heap.get? b=some o->s'.heap.get? b=some o)->s'.gens=s.gens->s'.os=s.os->Q (.ref l) s') :
 wpAny (model prog w) A (call (.builtin "sorted") [.ref S]) Q E s:=by
 refine Calls.call_function_entry kind_sorted plain_sorted entry_sorted (args_sorted1 _) ?_;unfold Builtin.«sorted»;refine wpAny_bind (m:=checkCount "sorted" 1 1 _) (wpAny_pure ?_);have hhs:∀{A':Around},A'.handled=A.handled->A'.handled=none:=λe=>e.trans hh;refine wpAny_bind (qi1 (by first | exact hh | simp[hh]) r λs1 vs ms hi hp kp szl eg eo=>?_)
 have hv:vs.length<=63:=by
  have e1:=hi.length;have e2:=hp.length_eq;omega
 have hz:vs.length<=sizeLine:=ybn hv (by decide);refine wpAny_bind (wpAny_newList ?_ hz);have g1:(s1.heap.push (seqObj "list" vs.toArray 0)).get? s1.heap.objs.size=some (seqObj "list" vs.toArray 0):=ydt _ rfl;refine wpAny_bind (wpAny_holding (wpAny_call_entry slot_list_sort ⟨_,g1,rfl⟩ entry_list_sort (Tim.sort_any g1 hi hv λout ns' a1 a2 a3=>⟨_,rfl,?_⟩) (args_list_sort _)));obtain⟨e,he⟩:∃e,(sortedHeap (s1.heap.push (seqObj "list" vs.toArray 0)) s1.heap.objs.size vs out).get? s1.heap.objs.size=some (seqObj "list" out e):=sortedHeap_at g1;have hle:s.heap.objs.size<=s1.heap.objs.size:=ydc szl;refine wpAny_pure ⟨_,rfl,h _ out.toList ns' e _ a1 (a2.trans hp) a3 hle (by rw[yfy];exact he) (λb o q=>?_) eg eo⟩;have q1:=kp b o q;have hb:b<s1.heap.objs.size:=ydv q1;show(sortedHeap (s1.heap.push (seqObj "list" vs.toArray 0)) s1.heap.objs.size vs out).get? b=some o;rw[sortedHeap_old (ydx hb) (by rw[size_push'];exact ydy hb)];exact ydu _ q1
end
end STb
namespace L2
open PySem PySem.Spec PyProof.Rows STb
def qlf (P:Program)(w:World)(a:Addr)(ns:List Int):HO := .ext λh=>RS P w h a ns
def qet (ns:List Int):List Int:=ns.foldl qds []
theorem qfG (ns:List Int):qcd (λi=>ns.getD i 0) ns.length=qet ns:=by
 unfold qcd qet;congr 1;refine yej (by simp) λi h1 h2=>?_;have:i<ns.length:=by simpa using h1
 simp[List.getD,this]
theorem qcV {ns:List Int}{k:Int}:k∈qet ns↔k∈ns:=by
 have key:∀(l acc:List Int),k∈l.foldl qds acc↔k∈acc\/k∈l:=λl=>by
  induction l with
  | nil=>intro acc;simp
  | cons x r ih =>
   intro acc;rw[ybm,ih,qhB,ybf,or_assoc]
 rw[qet,key];simp
theorem qdq (ns:List Int):(qet ns).Nodup:=by
 have key:∀(l acc:List Int),acc.Nodup->(l.foldl qds acc).Nodup:=λl=>by
  induction l with
  | nil=>intro acc h;exact h
  | cons x r ih=>intro acc h;exact ih _ (qg5 h)
 exact key ns [] List.nodup_nil
theorem qcg (ns:List Int):(qet ns).length<=ns.length:=by
 rw[<-qfG];exact qfD _ _
theorem qfs (val:Nat->Int):∀i,(qcd val i).Nodup
 | 0=>by simp[qcd]
 | i+1=>by
  rw[qc8];exact qg5 (qfs val i)
theorem qi5:∀(n:Nat) (L:List Nat),L.Nodup->(∀x∈L,x<n)->L.length<=n
 | 0,L,_,h=>by
  cases L with
  | nil=>exact yaz _
  | cons a r=>exact absurd (h a (by simp)) (by omega)
 | n+1,L,hn,h=>by
  by_cases hm:n∈L
  .have h1:=qi5 n (L.erase n) (hn.erase n) λx hx=>by
    obtain⟨h2,h3⟩:=hn.mem_erase_iff.mp hx;have:=h x h3;omega
   rw[ybx hm] at h1;omega
  .have:=qi5 n L hn λx hx=>by
    have:=h x hx;have:x≠n:=λz=>hm (z▸hx);omega
   omega
theorem qsc {L:List Int}(hn:L.Nodup)(h:∀z∈L,0<=z/\z<1000):L.length<=1000:=by
 have:=qi5 1000 (L.map Int.toNat) (by
  unfold List.Nodup;rw[ybw];refine List.Pairwise.imp_of_mem (λ{a b} ha hb e=>?_) hn;have:=h a ha;have:=h b hb;omega) λx hx=>by
  obtain⟨z,hz,rfl⟩:=ybu.mp hx;have:=h z hz;omega
 simpa using this
section
variable {X:Cx}{P:Program}{w:World}{K:PySem.W.Frag}
def qq5 (P:Program)(w:World)(K:PySem.W.Frag):List V->Hp->VK->Prop:=λxs H Q=>∃(p:Addr) (ns:List Int),xs=[.ref p]/\SqL K H p (ns.map V.int)/\(ns.length<=1000\/∀z∈ns,0<=z/\z<1000)/\∀a,H a=none->Q (.ref a) (upd H a (qlf P w a (qet ns)))
theorem qmU (hP:X.prog=P)(hw:X.w=w)(hK:X.K=K)(hc:X.calm=true):qcl X (.type "set") (qq5 P w K):=by
 subst hP hw hK;intro pins s σ H xs us Q I r h;obtain⟨p,ns,rfl,hq,hl,q⟩:=h;obtain⟨u,rfl,ru⟩:=qcz r;cases ru;obtain⟨its,rv,pl,hz⟩:=I.list hq;have hi:IntsAre its ns:=qca rv;have hle:=hi.length
 have few:∀i,i<=its.toArray.size->(qcd (λi=>ns.getD i 0) i).length+1<scanBound:=λi hi'=>by
  show _<4096;rw[yfh] at hi';rcases hl with hl | hl
  .have:=qfD (λi=>ns.getD i 0) i
   omega
  .have h1:∀i,i<=ns.length->(qcd (λi=>ns.getD i 0) i).Nodup:=λi _=>qfs _ i
   have h2:=qsc (h1 i (by omega)) λz hz=>by
    obtain⟨j,hj,rfl⟩:=(qhE _ _ _).mp hz;have hj2:j<ns.length:=by omega
    rw[ycj,yck hj2];exact hl _ (ydp hj2)
   omega
 refine qlG (I.ok.hd hc) pl.isList (by simpa using hi) few λh' tk rs kp=>?_
 have em:qcd (λi=>ns.getD i 0) its.toArray.size=qet ns:=by
  have e:its.toArray.size=ns.length:=by simp[hle]
  rw[e,qfG]
 rw[em] at rs;refine⟨.ref _,_,I.laid (a:=s.heap.objs.size) (o:=qlf X.prog X.w s.heap.objs.size (qet ns)) (t':=tk) (λb o e=>kp b o (ydv e) e) (yaz _) ⟨rs,?_,λh1 h2 r1 k=>r1.keep k⟩,rfl,q _ I.fresh⟩;obtain⟨es,ep,t,e,_⟩:=rs;exact⟨_,e⟩
def qrH (P:Program)(w:World)(K:PySem.W.Frag):List V->Hp->VK->Prop:=λxs H Q=>∃(p:Addr) (ns:List Int),xs=[.ref p]/\SqL K H p (ns.map V.int)/\ns.length<=1000/\∀a,H a=none->Q (.ref a) (upd H a (qlf P w a (qet ns)))
theorem qdM (hP:X.prog=P)(hw:X.w=w)(hK:X.K=K)(hc:X.calm=true):qcl X (.type "set") (qrH P w K):=by
 intro pins s σ H xs us Q I r h;obtain⟨p,ns,e,hq,hl,q⟩:=h;exact qmU hP hw hK hc pins s σ H xs us Q I r ⟨p,ns,e,hq,.inl hl,q⟩
def qr3 (P:Program)(w:World):List V->Hp->VK->Prop:=λxs H Q=>∃(a:Addr) (ns:List Int),xs=[.ref a]/\H a=some (qlf P w a ns)/\ns.length<=63/\∀(l:Addr) (ms:List Int),H l=none->ms.Perm ns->ms.Pairwise (·<=·)->Q (.ref l) (upd H l (.lst (ms.map V.int)))
theorem qkC (hP:X.prog=P)(hw:X.w=w)(hc:X.calm=true):qcl X (.builtin "sorted") (qr3 P w):=by
 subst hP hw;intro pins s σ H xs us Q I r h;obtain⟨a,ns,rfl,ha,hl,q⟩:=h;obtain⟨u,rfl,ru⟩:=qcz r;cases ru;have rs:RS X.prog X.w s.heap a ns:=(I.hok a _ ha).1;refine qkd (I.ok.hd hc) rs hl λl vs ms n s' hi hp pw hle g kp eg eo=>?_;obtain⟨h',g',d',t',o'⟩:=s';have e1:o'=s.os:=eo;have e2:g'=s.gens:=eg;subst e1 e2;have hn:H l=none:=I.hok.fresh hle;have e3:=hi.length;have e4:=hp.length_eq;have hok:=I.hok.laid (h':=h') (a:=l) (o := .lst (ms.map V.int)) kp hle ⟨by rw[ycd];exact ybn (show ms.length<=63 by omega) (by decide),vs,n,qdR hi,g⟩;refine⟨.ref l,_,I.call' (s':=⟨h',s.gens,d',t',s.os⟩) (ch:=[]) rfl (Un.laid kp hle hn) hok I.bare (λ_ z=>nomatch z),rfl,q l ms hn hp pw⟩
def qrN (K:PySem.W.Frag):List V->Hp->VK->Prop:=λxs H Q=>∃(p:Addr) (ns:List Int),xs=[.ref p]/\SqL K H p (ns.map V.int)/\ns.length<=63/\∀(l:Addr) (ms:List Int),H l=none->ms.Perm ns->ms.Pairwise (·<=·)->Q (.ref l) (upd H l (.lst (ms.map V.int)))
theorem qkD (hK:X.K=K):qcl X (.builtin "sorted") (qrN K):=by
 subst hK;intro pins s σ H xs us Q I r h;obtain⟨p,ns,rfl,hq,hl,q⟩:=h;obtain⟨u,rfl,ru⟩:=qcz r;cases ru;obtain⟨its,rv,pl,hz⟩:=I.list hq;have hi:IntsAre its ns:=qca rv;have hle:=hi.length;refine Tim.sorted_any pl.isList hi (by omega) λout ms a1 a2 a3=>?_;obtain⟨e,he⟩:=sortedAll_at s.heap its out;have hn:H (s.heap.objs.size+1)=none:=I.hok.fresh (ycx _);have e4:=a2.length_eq;refine⟨.ref _,_,I.laid (a:=s.heap.objs.size+1) (o := .lst (ms.map V.int)) (t':=s.toks) (λb o z=>sortedAll_old z) (ycx _) ⟨by rw[ycd];exact ybn (show ms.length<=63 by omega) (by decide),out.toList,e,qdR a1,by rw[yfy];exact he⟩,rfl,q _ ms hn a2 a3⟩
def qtb (P:Program)(w:World)(K:PySem.W.Frag):List V->Hp->VK->Prop:=λxs H Q=>∃(a:Addr) (ns:List Int),xs=[.ref a]/\(SqL K H a (ns.map V.int)\/H a=some (qlf P w a ns))/\ns.length<=63 /\
 ∀(l:Addr) (ms:List Int),H l=none->ms.Perm ns->ms.Pairwise (·<=·)->Q (.ref l) (upd H l (.lst (ms.map V.int)))
theorem qbr (hP:X.prog=P)(hw:X.w=w)(hK:X.K=K)(hc:X.calm=true):qcl X (.builtin "sorted") (qtb P w K):=by
 intro pins s σ H xs us Q I r h;obtain⟨a,ns,rfl,h1 | h1,hl,q⟩:=h
 .exact qkD hK pins s σ H _ us Q I r ⟨a,ns,rfl,h1,hl,q⟩
 .exact qkC hP hw hc pins s σ H _ us Q I r ⟨a,ns,rfl,h1,hl,q⟩
end
end L2
namespace L2
open PySem PySem.Spec PyProof.Rows
theorem qdo (a b:Nat):Builtin.bitAnd (a:Int) (b:Int)=((a&&&b:Nat):Int):=by
 rw[bitAnd_pp (by omega) (by omega)];rfl
theorem qcb (a b:Nat):Builtin.bitOr (a:Int) (b:Int)=((a|||b:Nat):Int):=by
 rw[bitOr_and,qdo]
 have h:∀n (a b:Nat),a<2^n->a+b=(a|||b)+(a&&&b):=by
  intro n
  induction n with
  | zero =>
   intro a b ha;have:a=0:=by omega
   subst this;simp
  | succ n ih =>
   intro a b ha;have q:=ih (a/2) (b/2) (by rw[yak] at ha;omega);have e1:(a|||b)/2=a/2|||b/2:=Nat.or_div_two
   have e2:(a&&&b)/2=a/2&&&b/2:=Nat.and_div_two
   have m1:(a|||b)%2=if a%2=1\/b%2=1 then 1 else 0:=by
    have:=yan a b 0;simp only[yal] at this;rcases yam (a|||b) with z | z<;>rcases yam a with z1 | z1<;>rcases yam b with z2 | z2<;>simp[z,z1,z2] at this⊢
   have m2:(a&&&b)%2=if a%2=1/\b%2=1 then 1 else 0:=by
    have:=yaa a b 0;simp only[yal] at this;rcases yam (a&&&b) with z | z<;>rcases yam a with z1 | z1<;>rcases yam b with z2 | z2<;>simp[z,z1,z2] at this⊢
   rw[<-e1,<-e2] at q;clear ih e1 e2 ha;generalize (a|||b)=x at q m1⊢;generalize (a&&&b)=y at q m2⊢;split at m1<;>split at m2<;>omega
 have:=h (a+1) a b (yae (ycy a) (ydc yao));omega
theorem qkO (ns:List Int):(ns.map V.int).all qbB=true:=by
 rw[ybh];intro x hx;obtain⟨z,_,rfl⟩:=ybu.mp hx;rfl
theorem qgS (k:Nat):(2:Int)^k=((2^k:Nat):Int):=by
 rw[Int.natCast_pow];rfl
end L2
namespace L2
open PySem PySem.Spec PyProof.Rows
section
variable {X:Cx}{K:PySem.W.Frag}
theorem qch (hc:X.calm=true)(hK:X.K=K):qcl X (.builtin "sum") (λxs H Q=>∃(p:Addr) (ns:List Int),xs=[.ref p]/\SqL K H p (ns.map V.int)/\Q (.int ns.sum) H):=by
 subst hK;intro pins s σ H xs us Q I r h;obtain⟨p,ns,rfl,hq,q⟩:=h;obtain⟨u,rfl,ru⟩:=qcz r;cases ru;obtain⟨its,rv,pl,hz⟩:=I.list hq;have hi:IntsAre its ns:=qca rv;obtain⟨zs,hx⟩:=hi.allInts.items;refine sum_intListG (I.ok.hd hc) (hx▸pl.isList) λh' tk t' kp=>?_
 have e:preSum (numAt zs) zs.size=ns.sum:=by
  have e1:numsOf its.toArray.toList=ns:=hi.numsOf;rw[preSum_eq,List.take_of_length_le (by simp),<-nums_intItems,<-hx,e1]
 rw[e];exact⟨.int _,H,I.kept (t':=tk) kp,⟨t',rfl⟩,q⟩
def qu2 (K:PySem.W.Frag)(te:TE):TE:=λσ H Q=>te σ H λx H1=>∃a xs,x = .ref a/\SqL K H1 a xs/\∀p,H1 p=none->Q (.ref p) (upd H1 p (.lst xs.reverse))
def Itv (K:PySem.W.Frag)(a:Addr)(xs:List V):It:=⟨λi H=>SqL K H a xs/\i<xs.length,λi H x H'=>H'=H/\xs.reverse[i]?=some x,λi H=>SqL K H a xs/\xs.length<=i⟩
theorem qnP {P:Program}{w:World}{K:PySem.W.Frag}{tg:Expr}(a it:Addr)(xs:List V):qlr P w K tg (Itv K a xs) [it] it (λi h=>i<=xs.length/\h.IsRevIter it a ((xs.length:Int)-1-i)) where
 mem:=by simp
 obj:=λi h st b hb=>by
  obtain rfl:b=it:=by simpa using hb
  obtain⟨_,o,e,c,d⟩:=st;exact⟨o,e,λv z=>by rw[d] at z;cases z⟩
 keep:=λi h h' st k=>⟨st.1,st.2.at λo e=>k it (by simp) o e⟩
 item:=by
  intro X hP hw hK hc i pins s σ H E I hf st hg;subst hP hw hK;obtain⟨hq,hi⟩:=hg;obtain⟨its,rv,p,hz⟩:=I.list hq;have hl:=rv.length;obtain⟨f0,f1,f2,f3,f4,f5⟩:=hf it (by simp);have hx:xs[xs.length-1-i]?=some (xs[xs.length-1-i]'(by omega)):=yck (by omega);obtain⟨u,hu,ru⟩:=rv.get hx;have e1:(xs.length:Int)-1-(i:Int)=((xs.length-1-i:Nat):Int):=by omega
  have e2:((xs.length-1-i:Nat):Int)-1=(xs.length:Int)-1-((i+1:Nat):Int):=by omega
  have st2:=st.2;rw[e1] at st2;refine wpAny_pyNext_rev_item st2 p.isList (x:=u) (by simpa using hu) λh' st' sb=>?_;rw[e2] at st';have I1:Inv X pins σ H { s with heap:=h' }:=I.turned (t':=s.toks) (λb o hb e=>(sb.2 b hb).trans e) f0 f1 f3 f4 f5;obtain⟨o,e,c,d⟩:=id st';refine⟨u,rfl,ql7 (s:={ s with heap:=h' }) e c d (by decide) ⟨_,H,I1,ru,⟨rfl,?_⟩,⟨hi,st'⟩,λb hb=>(hf b hb).1⟩⟩;rw[List.getElem?_reverse hi];exact hx
 done:=by
  intro X hP hw hK hc i pins s σ H E I hf st hg;subst hP hw hK;obtain⟨hq,hi⟩:=hg;obtain⟨f0,f1,f2,f3,f4,f5⟩:=hf it (by simp);have e1:(xs.length:Int)-1-(i:Int) = -1:=by have:=st.1;omega
  have st2:=st.2;rw[e1] at st2;exact wpAny_pyNext_rev_end (I.ok.hd hc) st2 λh' eb=>⟨rfl,I.turned (t':=s.toks) (λb o hb e=>eb b o hb e) f0 f1 f3 f4 f5⟩
 self:=λ_ _ _ _ _ st h=>wpAny_pyIter_revIter st.2 h
def quw (K:PySem.W.Frag)(ta:TA):TI:=λσ H R=>ta σ H λvs H1=>∃a xs,vs=[.ref a]/\SqL K H1 a xs/\R (Itv K a xs) H1
theorem qi7 {a tg:Expr}{ta:TA}{p pos:Pos}(hK:X.K=K)(hg:Gl X "reversed")(hm:X.mg "reversed" = none)(ha:PA X [a] ta)(hs:starEach [a] X.env=[(false,eval a X.env)]:=by rfl):PI X tg (.Call (.Name "reversed" p) [a] [] pos) (quw K ta):=by
 subst hK;intro pins s σ H R I h;refine Call_ (qdc I hg hm PyProof.Rows.boot_reversed (PyProof.Rows.callWith_type1 (thn (ha pos pins s σ H _ I h) λus s1 ⟨vs,H1,I1,r1,q1⟩=>?_) hs rfl));obtain⟨b,xs,rfl,hq,q⟩:=q1;obtain⟨u,rfl,ru⟩:=qcz r1;cases ru;obtain⟨its,rv,pl,hz⟩:=I1.list hq;have hl:=rv.length;refine call_reversed_list pl.isList ?_;have e:(its.toArray.size:Int)-1=(xs.length:Int)-1-((0:Nat):Int):=by rw[yfh];omega
 rw[e];have I2:Inv X pins σ H1 { s1 with heap:=s1.heap.push (revObj b ((xs.length:Int)-1-((0:Nat):Int))) }:=I1.kept (t':=s1.toks) λc o e=>ydu _ e;have at0:(s1.heap.push (revObj b ((xs.length:Int)-1-((0:Nat):Int)))).IsRevIter s1.heap.objs.size b ((xs.length:Int)-1-((0:Nat):Int)):=⟨_,ydt _ rfl,rfl,rfl⟩;refine wpAny_pyIter_revIter at0 ⟨s1.heap.objs.size,[s1.heap.objs.size],_,_,H1,rfl,I2,qnP b _ xs,⟨ybz _,at0⟩,λc hb=>?_,q⟩;obtain rfl:c=s1.heap.objs.size:=by simpa using hb
 exact I1.fpOk (yaz _) (I1.hok.fresh (yaz _))
end
section
variable {K:PySem.W.Frag}{g:TG}{tb:TS}{D:qfX}{σ:St}{H:Hp}{a:Addr}{xs:List V}{ta:TA}
theorem qpJ:qnh (quw K ta) g tb D σ H↔ta σ H λvs H1=>∃a xs,vs=[.ref a]/\SqL K H1 a xs/\qcT (Itv K a xs) g tb D σ H1:=Iff.rfl
theorem qtJ (Pv:Nat->St->Hp->Prop)(h0:Pv 0 σ H)(hl:∀i σ H,i<=xs.length->Pv i σ H->SqL K H a xs)
 (hs:∀i x σ H,xs.reverse[i]?=some x->Pv i σ H->g x σ H λσ2 H2=>tb { D with nx:=Pv (i+1),ct:=Pv (i+1),bk:=D.nx } σ2 H2)(hd:∀σ H,Pv xs.length σ H->D.nx σ H):qcT (Itv K a xs) g tb D σ H:=by
 refine⟨λi m σ H=>m=xs.length-i/\i<=xs.length/\Pv i σ H,⟨_,rfl,ybz _,h0⟩,?_⟩;rintro i m σ H ⟨rfl,hi,p⟩;by_cases hlt:i<xs.length
 .refine .inr ⟨⟨hl i σ H hi p,hlt⟩,Pv (i+1),λσ' H' q=>⟨xs.length-(i+1),by omega,rfl,hlt,q⟩,λx H' y=>?_⟩
  obtain⟨rfl,y⟩:=y;exact hs i x σ _ y p
 .obtain rfl:i=xs.length:=by omega
  exact .inl ⟨⟨hl _ σ H hi p,yaz _⟩,hd σ H p⟩
end
end L2
namespace L2
open PySem PySem.Spec PyProof.Rows
abbrev nI (fs:List Nat):List Int:=fs.map λ(n:Nat)=>(n:Int)
abbrev nV (fs:List Nat):List V:=(nI fs).map V.int
theorem qaP (fs:List Nat):(nV fs).length=fs.length:=by simp
theorem qjS {fs:List Nat}{i:Nat}{x:V}(h:(nV fs)[i]?=some x):∃a,fs[i]?=some a/\x = .int (a:Nat):=by
 rw[ycp,ycp] at h;cases e:fs[i]? with
 | none=>rw[e] at h;cases h
 | some a=>rw[e] at h;cases h;exact⟨a,rfl,rfl⟩
theorem qkl {fs:List Nat}{i a:Nat}(h:fs[i]?=some a):(nV fs)[i]?=some (.int (a:Nat)):=by
 rw[ycp,ycp,h];rfl
theorem qo6 {fs:List Nat}{x:V}(h:x∈nV fs):∃a∈fs,x = .int (a:Nat):=by
 obtain⟨z,hz,rfl⟩:=ybu.mp h;obtain⟨a,ha,rfl⟩:=ybu.mp hz;exact⟨a,ha,rfl⟩
theorem qfc (fs:List Nat)(a:Nat):nV fs++[V.int (a:Nat)]=nV (fs++[a]):=by simp
theorem qhX (fs gs:List Nat):nV fs++nV gs=nV (fs++gs):=by simp
theorem qsY {a b:List Nat}:nI a=nI b↔a=b:=by
 constructor
 .intro h
  have:(nI a).map Int.toNat=(nI b).map Int.toNat:=by rw[h]
  rw[nI,nI,ycw,ycw,show(Int.toNat ∘ λ(n:Nat)=>(n:Int))=id from funext λn=>yfg n,yfz,yfz] at this;exact this
 .rintro rfl;rfl
theorem qmP (a b:List Nat):qgm (nV a) (nV b)=decide (a=b):=by
 rw[qlb];exact decide_eq_decide.mpr qsY
theorem qie (fs:List Nat):(nV fs).all qbB=true:=qkO _
theorem qmb {ms:List Int}(h:∀z∈ms,0<=z):nI (ms.map Int.toNat)=ms:=by
 rw[nI,ycw]
 conv=>rhs;rw[<-yfz ms]
 refine yci λz hz=>?_;have:=h z hz;show((z.toNat:Nat):Int)=z;omega
def sd (fs:List Nat):List Nat:=(List.range (fs.foldl max 0+1)).filter λx=>decide (x∈fs)
theorem qs4 (fs:List Nat):∀z,z<=fs.foldl max z/\∀x∈fs,x<=fs.foldl max z:=by
 induction fs with
 | nil=>intro z;exact⟨yaz _,λx hx=>by cases hx⟩
 | cons a fs ih =>
  intro z;obtain⟨h1,h2⟩:=ih (max z a);rw[ybm];refine⟨by omega,λx hx=>?_⟩;rcases ybf.mp hx with rfl | hx
  .omega
  .exact h2 x hx
theorem qgb {fs:List Nat}{x:Nat}:x∈sd fs↔x∈fs:=by
 unfold sd;rw[yba,ybj,decide_eq_true_eq];exact⟨λh=>h.2,λh=>⟨by have:=(qs4 fs 0).2 x h;omega,h⟩⟩
theorem qgY (fs:List Nat):(sd fs).Pairwise (· < ·):=ybi.sublist ybc
theorem qq4 {fs gs:List Nat}(h:gs.Pairwise (· < ·))(e:∀x,x∈gs↔x∈fs):gs=sd fs:=Fam.rise_ext h (qgY fs) λx=>(e x).trans qgb.symm
theorem ql3 {fs:List Nat}(h:fs.Pairwise (· < ·)):sd fs=fs:=(qq4 h λ_=>Iff.rfl).symm
theorem qcc {fs:List Nat}{ms:List Int}(h1:ms.Perm (qet (nI fs)))(h2:ms.Pairwise (·<=·)):ms=nI (sd fs):=by
 have nn:∀z∈ms,0<=z:=λz hz=>by
  have:=qcV.mp (h1.mem_iff.mp hz);obtain⟨a,_,rfl⟩:=ybu.mp this;omega
 have e:=qmb nn;rw[<-e];congr 1;have nd:ms.Nodup:=h1.nodup_iff.mpr (qdq _);refine qq4 ?_ λx=>?_
 .rw[ybw]
  have:=ycn.mp h2;have nd':=ycn.mp nd;rw[ycn];intro i j hi hj hij;have a1:=this i j hi hj hij;have a2:ms[i]≠ms[j]:=nd' i j hi hj hij;have a3:=nn ms[i] (ydp _);omega
 .rw[ybu]
  constructor
  .rintro⟨z,hz,rfl⟩
   have:=qcV.mp (h1.mem_iff.mp hz);obtain⟨a,ha,rfl⟩:=ybu.mp this;simpa using ha
  .intro hx
   exact⟨x,h1.mem_iff.mpr (qcV.mpr (ybu.mpr ⟨x,hx,rfl⟩)),by simp⟩
theorem qmT {fs:List Nat}{ms:List Int}(hn:fs.Nodup)(h1:ms.Perm (nI fs))(h2:ms.Pairwise (·<=·)):ms=nI (sd fs):=by
 refine qcc (h1.trans ?_) h2
 have:(nI fs).Nodup:=by
  rw[nI,List.Nodup,ybw];exact hn.imp λh e=>h (by omega)
 refine(yga this (qdq _)).mpr λz=>?_;rw[qcV]
end L2
namespace L2
open PySem PySem.Spec PyProof.Rows
section
variable {K:PySem.W.Frag}{g:TG}{σ:St}{H:Hp}{a:Addr}{xs:List V}{nt:Nat}{caps:List Nat}{tt:TT}{te:TE}{Q:VK}
theorem qfL (Pv:Nat->List V->Hp->Prop)(h0:Pv 0 [] H)(hz:xs.length<=sizeLine)(hl:∀i ys H1,i<=xs.length->Pv i ys H1->SqL K H1 a xs/\ys.length<=i)
 (hs:∀i x ys H1,xs[i]?=some x->Pv i ys H1->∀(R:VK) (R':Hp->Prop),(∀y H2,Pv (i+1) (ys++[y]) H2->R y H2)->(∀H2,Pv (i+1) ys H2->R' H2) ->
  g x (qa2 nt caps σ) H1 λσ4 H4=>tt σ4 H4 λb H5=>if b=true then te σ4 H5 R else R' H5)
 (hd:∀ys H1,Pv xs.length ys H1->∀p,H1 p=none->Q (.ref p) (upd H1 p (.lst ys))):qcH (Itl K a) nt caps g tt te σ H Q:=by
 refine⟨λi m ys H1=>m=xs.length-i/\i<=xs.length/\Pv i ys H1,⟨_,rfl,ybz _,h0⟩,?_⟩;rintro i m ys H2 ⟨rfl,hi,p⟩;obtain⟨q,hy⟩:=hl i ys H2 hi p;by_cases hlt:i<xs.length
 .refine .inr ⟨⟨xs,xs[i],q,by simp[hlt]⟩,by omega,λx H3 y=>?_⟩
  obtain⟨e,y⟩:=y;subst e;exact hs i x ys _ (y xs q) p _ _ (λv H4 w=>⟨xs.length-(i+1),by omega,rfl,hlt,w⟩) λH4 w=>⟨xs.length-(i+1),by omega,rfl,hlt,w⟩
 .obtain rfl:i=xs.length:=by omega
  exact .inl ⟨⟨xs,q,yaz _⟩,by omega,hd ys H2 p⟩
theorem qrz {lo:Int}{n:Nat}(Pv:Nat->List V->Hp->Prop)(h0:Pv 0 [] H)(hz:n<=sizeLine)(hl:∀i ys H1,i<=n->Pv i ys H1->ys.length<=i)
 (hs:∀i ys H1,i<n->Pv i ys H1->∀(R:VK) (R':Hp->Prop),(∀y H2,Pv (i+1) (ys++[y]) H2->R y H2)->(∀H2,Pv (i+1) ys H2->R' H2) ->
  g (.int (lo+i)) (qa2 nt caps σ) H1 λσ4 H4=>tt σ4 H4 λb H5=>if b=true then te σ4 H5 R else R' H5)
 (hd:∀ys H1,Pv n ys H1->∀p,H1 p=none->Q (.ref p) (upd H1 p (.lst ys))):qcH (Itr lo n) nt caps g tt te σ H Q:=by
 refine⟨λi m ys H1=>m=n-i/\i<=n/\Pv i ys H1,⟨_,rfl,ybz _,h0⟩,?_⟩;rintro i m ys H2 ⟨rfl,hi,p⟩;have hy:=hl i ys H2 hi p;by_cases hlt:i<n
 .refine .inr ⟨hlt,by omega,λx H3 y=>?_⟩
  obtain⟨e,y⟩:=y;subst e y;exact hs i ys _ hlt p _ _ (λv H4 w=>⟨n-(i+1),by omega,rfl,hlt,w⟩) λH4 w=>⟨n-(i+1),by omega,rfl,hlt,w⟩
 .obtain rfl:i=n:=by omega
  exact .inl ⟨yaz _,by omega,hd ys H2 p⟩
theorem qcQ {n:Nat}(c:Nat->Bool)(f:Nat->V)(hz:n<=100000)
 (hs:∀k,k<n->∀H1,qar H H1->∀(R:VK) (R':Hp->Prop),(c k=true->∀H2,qar H1 H2->R (f k) H2)->(c k=false->∀H2,qar H1 H2->R' H2) ->
  g (.int (k:Nat)) (qa2 nt caps σ) H1 λσ4 H4=>tt σ4 H4 λb H5=>if b=true then te σ4 H5 R else R' H5)
 (hd:∀H1 p,qar H H1->H1 p=none->Q (.ref p) (upd H1 p (.lst (((List.range n).filter c).map f)))):qcH (Itr 0 n) nt caps g tt te σ H Q:=by
 refine qrz (λi ys H1=>qar H H1/\ys=((List.range i).filter c).map f) ⟨qar.refl _,rfl⟩ (ybn hz (by decide)) (λi ys H1 _ h=>?_) (λi ys H1 hi h R R' r1 r2=>?_) λys H1 h p hp=>?_
 .rw[h.2,ycd]
  exact ybn (ybo _ _) (by simp)
 .obtain⟨sm,rfl⟩:=h
  rw[Int.zero_add];refine hs i hi H1 sm R R' (λhc H2 s2=>r1 _ _ ⟨sm.trans s2,?_⟩) λhc H2 s2=>r2 _ ⟨sm.trans s2,?_⟩
  .rw[yds,yaw,ycv];simp[hc]
  .rw[yds,yaw,ycv];simp[hc]
 .rw[h.2]
  exact hd H1 p h.1 hp
theorem ql4 {fs:List V}(c:V->Bool)(f:V->V)(hq:SqL K H a fs)(hz:fs.length<=100000)
 (hs:∀x∈fs,∀H1,qar H H1->∀(R:VK) (R':Hp->Prop),(c x=true->∀H2,qar H1 H2->R (f x) H2)->(c x=false->∀H2,qar H1 H2->R' H2) ->
  g x (qa2 nt caps σ) H1 λσ4 H4=>tt σ4 H4 λb H5=>if b=true then te σ4 H5 R else R' H5)
 (hd:∀H1 p,qar H H1->H1 p=none->Q (.ref p) (upd H1 p (.lst ((fs.filter c).map f)))):qcH (Itl K a) nt caps g tt te σ H Q:=by
 refine qfL (xs:=fs) (λi ys H1=>qar H H1/\ys=((fs.take i).filter c).map f) ⟨qar.refl _,rfl⟩ (ybn hz (by decide)) (λi ys H1 hi h=>⟨h.1.seq hq,?_⟩) (λi x ys H1 hx h R R' r1 r2=>?_) λys H1 h p hp=>?_
 .rw[h.2,ycd]
  exact ybn (ybo _ _) (by rw[yfb];omega)
 .obtain⟨sm,rfl⟩:=h
  have ex:=take_succ_filter c fs i x hx;refine hs x (ycl hx) H1 sm R R' (λhc H2 s2=>r1 _ _ ⟨sm.trans s2,?_⟩) λhc H2 s2=>r2 _ ⟨sm.trans s2,?_⟩
  .rw[ex,hc,if_pos rfl,ycv];rfl
  .rw[ex,hc,if_neg yet,yed]
 .rw[h.2,ydi]
  exact hd H1 p h.1 hp
theorem qbv {fs:List Nat}(c:Nat->Bool)(f:Nat->V)(hq:SqL K H a (nV fs))(hz:fs.length<=100000)
 (hs:∀x∈fs,∀H1,qar H H1->∀(R:VK) (R':Hp->Prop),(c x=true->∀H2,qar H1 H2->R (f x) H2)->(c x=false->∀H2,qar H1 H2->R' H2) ->
  g (.int (x:Nat)) (qa2 nt caps σ) H1 λσ4 H4=>tt σ4 H4 λb H5=>if b=true then te σ4 H5 R else R' H5)
 (hd:∀H1 p,qar H H1->H1 p=none->Q (.ref p) (upd H1 p (.lst ((fs.filter c).map f)))):qcH (Itl K a) nt caps g tt te σ H Q:=by
 refine ql4 (fs:=nV fs) (λv=>match v with | .int i=>c i.toNat | _=>false) (λv=>match v with | .int i=>f i.toNat | _ => .non) hq (by rw[qaP];exact hz) (λx hx H1 sm R R' r1 r2=>?_) λH1 p sm hp=>?_
 .obtain⟨b,hb,rfl⟩:=qo6 hx
  refine hs b hb H1 sm R R' (λhc=>?_) λhc=>?_
  .have:=r1 (by simpa using hc)
   simpa using this
  .exact r2 (by simpa using hc)
 .have e:((nV fs).filter (λv=>match v with | .int i=>c i.toNat | _=>false)).map (λv=>match v with | .int i=>f i.toNat | _ => .non)=(fs.filter c).map f:=by
   rw[nV,nI,ycw,List.filter_map,ycw];rfl
  rw[e];exact hd H1 p sm hp
end
theorem qau {n:Nat}(h:n<=100000):n<=sizeLine:=ybn h (by decide)
theorem qcv {n:Nat}(h:n<=100000):n<sizeLine:=ybk h (by decide)
theorem qkN {b:Bool}{A B:Prop}(h1:b=true->A)(h2:b=false->B):if b=true then A else B:=by
 cases b
 .exact qcA (h2 rfl)
 .exact qeK (h1 rfl)
theorem qfM {P A B:Prop}[Decidable P]{b:Bool}(e:P↔b=true)(h1:b=true->A)(h2:b=false->B):if P then A else B:=by
 by_cases c:P
 .rw[if_pos c];exact h1 (e.mp c)
 .rw[if_neg c];exact h2 (by cases b with | false=>rfl | true=>exact absurd (e.mpr rfl) c)
theorem qap {H H':Hp}{p:Addr}{o:HO}(e:upd H p o=H'):H' p=some o:=e▸qag
theorem qaj {H H':Hp}{p:Addr}{o:HO}(e:upd H p o=H')(h:H p=none):qar H H':=e▸qar.new h
theorem qdX {H:Hp}{p q:Addr}{o:HO}(h:H p=none)(hq:H q=some o):q≠p:=λz=>by rw[z,h] at hq;cases hq
theorem qaC {H H':Hp}{p:Addr}(s:qar H H')(h:H' p=none):H p=none:=by
 cases e:H p with
 | none=>rfl
 | some o=>rw[s _ _ e] at h;cases h
theorem qd1 {fs:List Nat}{i b:Nat}(h:fs[i]?=some b):atI (nV fs) (i:Int)=some (.int (b:Nat)):=by
 have hl:=(ycm.mp h).1;unfold atI ixN;rw[if_pos (by omega),if_pos (by rw[qaP];omega)];show(nV fs)[(i:Int).toNat]?=_;rw[yfg];exact qkl h
theorem qe2 {H:Hp}{p:Addr}{o:HO}(h:H p=some o):H=upd H p o:=funext λx=>by
 by_cases c:x=p
 .rw[c,qag,h]
 .rw[qay c]
theorem qnp (fs:List Nat){n:Nat}(h:fs.length<=n):(sd fs).length<=n:=by
 have nd:(nI (sd fs)).Nodup:=by
  rw[nI,List.Nodup,ybw];exact(qgY fs).imp λh e=>by omega
 have p:(nI (sd fs)).Perm (qet (nI fs)):=(yga nd (qdq _)).mpr λz=>by
  rw[qcV,ybu,ybu];exact⟨λ⟨x,hx,e⟩=>⟨x,qgb.mp hx,e⟩,λ⟨x,hx,e⟩=>⟨x,qgb.mpr hx,e⟩⟩
 have e1:=p.length_eq;have e2:=qcg (nI fs);simp at e1 e2;omega
theorem qjT (n:Nat)(c:Nat->Bool):((List.range n).filter c).map (λk=>V.int (k:Nat))=nV ((List.range n).filter c):=by simp
theorem qna (fs:List Nat):fs.map (λk=>V.int (k:Nat))=nV fs:=by simp
end L2
namespace L2
open PySem PySem.Spec PyProof.Rows
theorem qeZ (xs:List V)(n:Nat):qkt xs none (some (n:Int))=xs.take n:=by
 unfold qkt;rw[HT.sIx_nat];show(xs.drop 0).take (min n xs.length-0)=_;rw[List.drop_zero,Nat.sub_zero,ygb];omega
theorem qbY (xs:List V)(n:Nat):qkt xs (some (n:Int)) none=xs.drop n:=by
 unfold qkt;rw[HT.sIx_nat];show(xs.drop (min n xs.length)).take (xs.length-min n xs.length)=_;rcases yag n xs.length with z | z
 .rw[Nat.min_eq_left (ydc z),<-ydg,ydi]
 .rw[Nat.min_eq_right z,ygc z,ygc (yaz _)]
  simp
theorem qpT (xs:List V)(i j:Nat):qkt xs (some (i:Int)) (some (j:Int))=(xs.drop i).take (j-i):=by
 unfold qkt;rw[HT.sIx_nat,HT.sIx_nat];rcases yag i xs.length with z | z
 .rw[Nat.min_eq_left (ydc z),ygb,ydg]
  omega
 .rw[Nat.min_eq_right z,ygc z,ygc (yaz _)]
  simp
end L2
namespace L2
open PySem PySem.Spec PyProof.Rows
section
variable {K:PySem.W.Frag}{g:TG}{tb:TS}{D:qfX}{σ:St}{H:Hp}{a:Addr}{xs:List V}{c:TT}
theorem qeM {n:Nat}(Pv:Nat->St->Hp->Prop)(h0:Pv 0 σ H)
 (hs:∀i σ H,i<n->Pv i σ H->∀N:St->Hp->Prop,(∀σ' H',Pv (i+1) σ' H'->N σ' H')->g (.int (i:Nat)) σ H λσ2 H2=>tb { D with nx:=N,ct:=N,bk:=D.nx } σ2 H2)(hd:∀σ H,Pv n σ H->D.nx σ H):qcT (Itr 0 n) g tb D σ H :=
 qqp Pv h0 (λi σ H hi p=>by rw[Int.zero_add];exact hs i σ H hi p _ λ_ _ q=>q) hd
theorem qgr (Pv:Nat->St->Hp->Prop)(h0:Pv 0 σ H)(hl:∀i σ H,i<=xs.length->Pv i σ H->SqL K H a xs)
 (hs:∀i x σ H,xs[i]?=some x->Pv i σ H->∀N:St->Hp->Prop,(∀σ' H',Pv (i+1) σ' H'->N σ' H')->g x σ H λσ2 H2=>tb { D with nx:=N,ct:=N,bk:=D.nx } σ2 H2)(hd:∀σ H,Pv xs.length σ H->D.nx σ H):qcT (Itl K a) g tb D σ H :=
 qq2 Pv h0 hl (λi x σ H hx p=>hs i x σ H hx p _ λ_ _ q=>q) hd
theorem qhF {fs:List Nat}(Pv:Nat->St->Hp->Prop)(h0:Pv 0 σ H)(hl:∀i σ H,i<=fs.length->Pv i σ H->SqL K H a (nV fs))
 (hs:∀i b σ H,fs[i]?=some b->Pv i σ H->∀N:St->Hp->Prop,(∀σ' H',Pv (i+1) σ' H'->N σ' H')->g (.int (b:Nat)) σ H λσ2 H2=>tb { D with nx:=N,ct:=N,bk:=D.nx } σ2 H2)(hd:∀σ H,Pv fs.length σ H->D.nx σ H):qcT (Itl K a) g tb D σ H :=
 qq2 (xs:=nV fs) Pv h0 (λi σ H hi p=>hl i σ H (by rwa [qaP] at hi) p) (λi x σ H hx p=>by
  obtain⟨b,hb,rfl⟩:=qjS hx;exact hs i b σ H hb p _ λ_ _ q=>q) λσ H p=>hd σ H (by rwa [qaP] at p)
theorem qsO {fs:List Nat}(Pv:Nat->St->Hp->Prop)(h0:Pv 0 σ H)(hl:∀i σ H,i<=fs.length->Pv i σ H->SqL K H a (nV fs))
 (hs:∀i b σ H,fs.reverse[i]?=some b->Pv i σ H->∀N:St->Hp->Prop,(∀σ' H',Pv (i+1) σ' H'->N σ' H')->g (.int (b:Nat)) σ H λσ2 H2=>tb { D with nx:=N,ct:=N,bk:=D.nx } σ2 H2)(hd:∀σ H,Pv fs.length σ H->D.nx σ H):qcT (Itv K a (nV fs)) g tb D σ H :=
 qtJ Pv h0 (λi σ H hi p=>hl i σ H (by rwa [qaP] at hi) p) (λi x σ H hx p=>by
  rw[show(nV fs).reverse=nV fs.reverse by simp] at hx;obtain⟨b,hb,rfl⟩:=qjS hx;exact hs i b σ H hb p _ λ_ _ q=>q) λσ H p=>hd σ H (by rwa [qaP] at p)
theorem qtg (W:Nat->St->Hp->Prop)(m0:Nat)(h0:W m0 σ H)
 (hs:∀m σ H,W m σ H->∀(T:Hp->Prop),(∀H1,((∀N:St->Hp->Prop,(∀m' σ' H',m'<m->W m' σ' H'->N σ' H')->tb { D with nx:=N,ct:=N,bk:=D.nx } σ H1)->T H1))->c σ H λb H1=>if b=true then T H1 else D.nx σ H1):qjz c tb D σ H:=by
 refine⟨W,⟨m0,h0⟩,λm σ H w=>?_⟩;exact hs m σ H w (λH1=>∃N:St->Hp->Prop,(∀σ' H',N σ' H'->∃m',m'<m/\W m' σ' H')/\tb { D with nx:=N,ct:=N,bk:=D.nx } σ H1) λH1 h=>⟨λσ' H'=>∃m',m'<m/\W m' σ' H',λ_ _ z=>z,h _ λm' σ' H' l w'=>⟨m',l,w'⟩⟩
end
end L2
namespace L2
open PySem PySem.Spec PyProof.Rows
theorem qi4 (a k:Nat):Builtin.bitAnd ((a:Int)/2^((k:Nat):Int).toNat) 1=if a.testBit k=true then 1 else 0:=by
 have e:(a:Int)/2^((k:Nat):Int).toNat=((a/2^k:Nat):Int):=by rw[yfg,qgS];rfl
 rw[e,show(1:Int)=((1:Nat):Int) from rfl,qdo,Nat.and_one_is_mod,Nat.testBit_eq_decide_div_mod_eq];by_cases c:a/2^k%2=1
 .simp[c]
 .have:a/2^k%2=0:=by omega
  simp[this]
theorem qre (a k:Nat):decide (Builtin.bitAnd ((a:Int)/2^((k:Nat):Int).toNat) 1=1)=a.testBit k:=by
 rw[qi4];cases a.testBit k<;>rfl
theorem qdx {a k:Nat}:Builtin.bitAnd ((a:Int)/2^((k:Nat):Int).toNat) 1=1↔a.testBit k=true:=by
 rw[<-qre,decide_eq_true_eq]
theorem qaQ (k:Nat):(1:Int)*2^((k:Nat):Int).toNat=((2^k:Nat):Int):=by rw[Int.one_mul,yfg,qgS]
end L2
namespace L2
open PySem PySem.Spec PyProof.Rows
inductive Deq (K:PySem.W.Frag)(H:Hp):Nat->V->V->Bool->Prop where
 | flat {n:Nat}{x y:V}:qbB x=true->qbB y=true->Deq K H n x y (eqV x y)
 | lst {n:Nat}{a b:Addr}{xs ys:List V}{e:Nat->Bool}:a≠b->SqL K H a xs->SqL K H b ys->xs.length=ys.length->(∀(j:Nat) (x y:V),xs[j]?=some x->ys[j]?=some y->Deq K H n x y (e j))->Deq K H (n+1) (.ref a) (.ref b) ((List.range xs.length).all e)
 | lstN {n:Nat}{a b:Addr}{xs ys:List V}:a≠b->SqL K H a xs->SqL K H b ys->xs.length≠ys.length->Deq K H (n+1) (.ref a) (.ref b) false
 | tup {n:Nat}{a b:Addr}{xs ys:List V}{e:Nat->Bool}:a≠b->SqT K H a xs->SqT K H b ys->(∀(j:Nat) (x y:V),xs[j]?=some x->ys[j]?=some y->Deq K H n x y (e j))->Deq K H (n+1) (.ref a) (.ref b) ((List.range (min xs.length ys.length)).all e&&xs.length==ys.length)
section
variable {X:Cx}{pins:List (Addr×Obj)}{σ:St}{H:Hp}{s:Shared}{K:PySem.W.Frag}
end
end L2
namespace L2
open PySem PySem.Spec PyProof.Rows
abbrev bV (t:List Bool):List V:=t.map V.bl
def tab (n:Nat)(f:Nat->Bool):List Bool:=(List.range n).map f
theorem qrB (t:List Bool):(bV t).length=t.length:=by simp
theorem qqX {n k:Nat}{f:Nat->Bool}(h:k<n):(tab n f)[k]?=some (f k):=by
 unfold tab;rw[ycp,ycq h];rfl
theorem que {t:List Bool}{i:Nat}{b:Bool}(h:t[i]?=some b):atI (bV t) (i:Int)=some (.bl b):=by
 have hl:=(ycm.mp h).1;unfold atI ixN;rw[if_pos (by omega),if_pos (by rw[qrB];omega)];show(bV t)[(i:Int).toNat]?=_;rw[yfg,ycp,h];rfl
theorem qgz {n k:Nat}{f:Nat->Bool}(h:k<n):atI (bV (tab n f)) (k:Int)=some (.bl (f k)):=que (qqX h)
theorem qrg {n:Nat}{f:Nat->Bool}:((List.range n).filter λ_=>true).map (λk=>V.bl (f k))=bV (tab n f):=by
 rw[ygd.mpr λ_ _=>rfl,tab,bV,ycw];rfl
end L2
namespace L2
open PySem PySem.Spec PyProof.Rows
section
variable {X:Cx}{es:List Expr}{t:TA}{te:TE}
inductive CI:List Expr->List Int->Prop
 | nil:CI [] []
 | cons {i:Int}{j:Nat}{p:Pos}{es:List Expr}{ns:List Int}(h:CI es ns):CI (.Constant (.int i) j p::es) (i::ns)
def qua (ns:List Int):TA:=λ_ H Q=>Q (ns.map V.int) H
end
end L2
namespace L2
open PySem PySem.Spec PyProof.Rows
section
variable {X:Cx}{K:PySem.W.Frag}
theorem qcY {T:String}{name:Str}{id:String}{r:V->List V->Hp->VK->Prop}{o e:Expr}{es:List Expr}{to:TE}{t:TA}{apos cpos:Pos}(hK:X.K=K)(pa:PlainAttrs T)(slot:Slot T name id)(hty:typeOf (.builtin id)=pure (.type "method_descriptor"))(hm:MtR X id r)(ho:PE X o to)(ha:PA X (e::es) t)(h1:attributeBase o name X.env (eval o X.env)=eval o X.env:=by rfl)(h2:((backTo cpos (starEach (e::es) X.env)).all (λx=>!x.1)&&(backToKw cpos (keywordEach [] X.env)).all (λx=>x.1.isSome)&&decide ((e::es).length+([]:List Keyword).length+(if ([]:List Keyword).isEmpty then 0 else 1)<30))=true:=by rfl)(h3:(apos.endLine==cpos.line)=true:=by rfl)(h4:starEach (e::es) X.env=(false,eval e X.env)::starEach es X.env:=by rfl)(h5:(backTo cpos (starEach es X.env)).any (·.1)=false:=by rfl):PE X (.Call (.Attribute o name apos) (e::es) [] cpos) (tBM K T r to t):=by
 subst hK;exact qbj pa slot hty hm ho ha h1 h2 h3 h4 h5
end
end L2
namespace L2
open PySem PySem.Spec PyProof.Rows
inductive DI:List Expr->TA->Prop
 | nil:DI [] qtw
 | c {v:Const}{j:Nat}{p:Pos}{es:List Expr}{te:TE}{t:TA}(h:∀X,PE X (.Constant v j p) te) (r:DI es t):DI (.Constant v j p::es) (qiD te t)
 | t {xs:List Expr}{b p}{es:List Expr}{te:TE}{t:TA}(h:∀X,PE X (.Tuple xs b p) te) (r:DI es t):DI (.Tuple xs b p::es) (qiD te t)
 | d {ks vs p}{es:List Expr}{te:TE}{t:TA}(h:∀X,PE X (.Dict ks vs p) te) (r:DI es t):DI (.Dict ks vs p::es) (qiD te t)
 | l {xs:List Expr}{p}{es:List Expr}{te:TE}{t:TA}(h:∀X,PE X (.List xs p) te) (r:DI es t):DI (.List xs p::es) (qiD te t)
end L2
namespace L2
open PySem PySem.Spec PyProof.Rows STb
section
variable {prog:Program}{w:World}{A:Around}{E:Value->Shared->Prop}{s:Shared}
end
section
variable {X:Cx}
end
end L2
namespace L2
open PySem PySem.Spec PyProof.Rows
section
variable {X:Cx}{K:PySem.W.Frag}{g:TG}{σ:St}{H:Hp}{a:Addr}{xs:List V}{nt:Nat}{caps:List Nat}{tt:TT}{te tl:TE}{Q:VK}
theorem qqN (h:X.K=K):SlR X (qup K):=h▸qsp
theorem qqC:qfY nt caps (qt7 K tl) g tt te σ H Q↔tl σ H λx H1=>∃a,x = .ref a/\(∃xs,SqT K H1 a xs)/\qcH (Itt K a) nt caps g tt te σ H1 Q:=Iff.rfl
end
end L2
namespace L2
open PySem PySem.Spec PyProof.Rows
section
variable {X:Cx}{pins:List (Addr×Obj)}{σ:St}{H:Hp}{s:Shared}{h':Heap}{K:PySem.W.Frag}
theorem Inv.turned2 {t':Nat}{e it:Addr}(I:Inv X pins σ H s) (k:∀b o,b≠e->b≠it->s.heap.get? b=some o->h'.get? b=some o) (fe:qhL X pins H e) (fi:qhL X pins H it):Inv X pins σ H { s with heap:=h',toks:=t' }:=by
 have nit:∀b u,H b=some u->b≠e/\b≠it:=λb u q=>⟨λz=>(by rw[z,fe.1] at q;cases q),λz=>(by rw[z,fi.1] at q;cases q)⟩;have nc:∀b:Addr,b∉[e,it]->b≠e/\b≠it:=λb hc=>⟨λz=>hc (by simp[z]),λz=>hc (by simp[z])⟩
 refine I.step (g':=s.gens) (d':=s.drawn) (ch:=[e,it]) (λb hb=>?_) (λb o _ _ hc q _=>k b o (nc b hc).1 (nc b hc).2 q) (λb o _ _ hc q _=>⟨o.slots,k b o (nc b hc).1 (nc b hc).2 q⟩) (λ_ _ _ _ n=>n)
  (λb o hc q=>⟨o,k b o (nc b hc).1 (nc b hc).2 q⟩) (λ_ _ q=>q) (λ_ _ _ q=>q) (λb ps q=>⟨#[],by rw[q];simp⟩) (λm hm=>?_) (λb u q=>?_) I.bare
 .rcases ybf.mp hb with rfl | hb
  .exact⟨fe.2.2.2.1,fe.2.1,fe.2.2.2.2.1,fe.2.2.2.2.2⟩
  .obtain rfl:b=it:=by simpa using hb
   exact⟨fi.2.2.2.1,fi.2.1,fi.2.2.2.2.1,fi.2.2.2.2.2⟩
 .obtain⟨o,es,ep,ho,r⟩:=hm
  exact⟨o,es,ep,k _ o (Ne.symm fe.2.1) (Ne.symm fi.2.1) ho,r⟩
 .have ne2:∀c,c=b\/H c=some (.own b)->c≠e/\c≠it:=λc hc=>by
   rcases hc with z | z
   .rw[z];exact nit b u q
   .exact nit c _ z
  exact(I.hok b u q).stay (λc v hc z=>k c v (ne2 c hc).1 (ne2 c hc).2 z) (λ_ z=>z) λ_ _ z=>z
def Ite (K:PySem.W.Frag)(a:Addr):It :=
 ⟨λi H=>∃xs x,SqL K H a xs/\xs[i]?=some x,λi H v H'=>∃t,v = .ref t/\H t=none/\∀xs x,SqL K H a xs->xs[i]?=some x->H'=upd H t (.tup [.int (i:Nat),x]),λi H=>∃xs,SqL K H a xs/\xs.length<=i⟩
theorem qkK {P:Program}{w:World}{elts:List Expr}{x1:Nat}{pos:Pos}(a e it:Addr)(hei:e≠it):qlr P w K (.Tuple elts x1 pos) (Ite K a) [e,it] e (λi h=>(∃old,IsEnum h e it i old)/\h.IsListIter it a i) where
 mem:=by simp
 obj:=λi h st b hb=>by
  obtain⟨⟨old,he⟩,o,e2,c,d⟩:=st;rcases ybf.mp hb with rfl | hb
  .exact⟨_,he,λv z=>by
    have z':Data.fields _=Data.cell v:=z;cases z'⟩
  .obtain rfl:b=it:=by simpa using hb
   exact⟨o,e2,λv z=>by rw[d] at z;cases z⟩
 keep:=λi h h' st k=>by
  obtain⟨⟨old,he⟩,st⟩:=st;exact⟨⟨old,k e (by simp) _ he⟩,st.at λo q=>k it (by simp) o q⟩
 item:=by
  intro X hP hw hK hc i pins s σ H E I hf st hg;subst hP hw hK;obtain⟨xs,x,hq,hx⟩:=hg;obtain⟨its,rv,p,hz⟩:=I.list hq;obtain⟨u,hu,ru⟩:=rv.get hx;obtain⟨⟨old,he⟩,hit⟩:=st;have fe:=hf e (by simp);have fi:=hf it (by simp);have hel:e<s.heap.objs.size:=ydv he;have hil:it<s.heap.objs.size:=by obtain⟨_,q,_⟩:=hit;exact ydv q
  have fr:=I.hok.fresh (yaz s.heap.objs.size);refine wpAny_pyNext_enum_item he hit p.isList (x:=u) (by simpa using hu) hei λh' ho hit' hT hsz hk=>⟨_,rfl,?_⟩;refine wpAny_letOwnedTupleGo_enum (s:={ s with heap:=h',toks:=s.toks+1 }) ho λh2 he2 hs2=>?_
  have I1:Inv X pins σ (upd H s.heap.objs.size (.tup [.int (i:Nat),x])) { s with heap:=s.heap.push { cls := .type "tuple",data := .seq #[.int i s.toks,u] },toks:=s.toks+1 } :=
   I.laid (t':=s.toks+1) (λb u e=>ydu _ e) (yaz _) ⟨by simp;decide,[.int i s.toks,u],.cons ⟨_,rfl⟩ (.cons ru .nil),⟨_,ydt _ rfl,rfl,_,rfl⟩⟩
  have up:∀b,b<s.heap.objs.size->H b=none->upd H s.heap.objs.size (.tup [.int (i:Nat),x]) b=none:=λb hb hn=>by
   rw[qay (ydx hb)];exact hn
  have I2:Inv X pins σ (upd H s.heap.objs.size (.tup [.int (i:Nat),x])) { s with heap:=h2,toks:=s.toks+1 } 
   := Inv.turned2 (s:={ s with heap:=s.heap.push { cls := .type "tuple",data := .seq #[.int i s.toks,u] },toks:=s.toks+1 }) (h':=h2) (t':=s.toks+1) (e:=e) (it:=it) I1 (λb o b1 b2 q=>by
   rw[hs2.2 b b1];by_cases c:b=s.heap.objs.size
   .subst c
    have q0:(s.heap.push { cls := .type "tuple",data := .seq #[.int i s.toks,u] }).get? s.heap.objs.size=some { cls := .type "tuple",data := .seq #[.int i s.toks,u] }:=ydt _ rfl;have q1:(s.heap.push { cls := .type "tuple",data := .seq #[.int i s.toks,u] }).get? s.heap.objs.size=some o:=q;rw[q0] at q1;cases q1;exact hT
   .have q1:(s.heap.push { cls := .type "tuple",data := .seq #[.int i s.toks,u] }).get? b=some o:=q
    rw[yge _ _ _ c] at q1;exact hk b o b1 b2 q1) ⟨up e hel fe.1,fe.2⟩ ⟨up it hil fi.1,fi.2⟩
  refine⟨.ref s.heap.objs.size,_,I2,rfl,⟨_,rfl,fr,λys y hy hyx=>?_⟩,⟨⟨_,he2⟩,hit'.at λo q=>(hs2.2 it (Ne.symm hei)).trans q⟩,λb hb=>?_⟩
  .rw[I.list_inj hy hq,hx] at hyx
   cases hyx;rfl
  .rcases ybf.mp hb with rfl | hb
   .exact up _ hel fe.1
   .obtain rfl:b=it:=by simpa using hb
    exact up _ hil fi.1
 done:=by
  intro X hP hw hK hc i pins s σ H E I hf st hg;subst hP hw hK;obtain⟨xs,hq,hx⟩:=hg;obtain⟨its,rv,p,hz⟩:=I.list hq;obtain⟨⟨old,he⟩,hit⟩:=st;obtain⟨f0,f1,f2,f3,f4,f5⟩:=hf it (by simp);have hl:=rv.length;exact wpAny_pyNext_enum_end (I.ok.hd hc) he hit p.isList (by simp;omega) λh' eb=>⟨rfl,I.turned (t':=s.toks) (λb o hb e=>eb b o hb e) f0 f1 f3 f4 f5⟩
 self:=λ_ _ _ _ _ st h=>by
  obtain⟨⟨old,he⟩,_⟩:=st;exact wpAny_pyIter_enum he h
def qr8 (K:PySem.W.Frag)(ta:TA):TI:=λσ H R=>ta σ H λvs H1=>∃a xs,vs=[.ref a]/\SqL K H1 a xs/\R (Ite K a) H1
theorem qp2 {a:Expr}{elts:List Expr}{x1:Nat}{tp:Pos}{ta:TA}{p pos:Pos}(hK:X.K=K)(hg:Gl X "enumerate")(hm:X.mg "enumerate" = none)(ha:PA X [a] ta)(hs:starEach [a] X.env=[(false,eval a X.env)]:=by rfl):PI X (.Tuple elts x1 tp) (.Call (.Name "enumerate" p) [a] [] pos) (qr8 K ta):=by
 subst hK;intro pins s σ H R I h;refine Call_ (qdc I hg hm PyProof.Rows.boot_enumerate (PyProof.Rows.callWith_type1 (thn (ha pos pins s σ H _ I h) λus s1 ⟨vs,H1,I1,r1,q1⟩=>?_) hs rfl));obtain⟨b,xs,rfl,hq,q⟩:=q1;obtain⟨u,rfl,ru⟩:=qcz r1;cases ru;obtain⟨its,rv,pl,hz⟩:=I1.list hq;refine call_enumerate_list pl.isList λh' he hi hsz hk=>?_;have I2:Inv X pins σ H1 { s1 with heap:=h' }:=I1.kept (t':=s1.toks) hk;refine wpAny_pyIter_enum he ⟨s1.heap.objs.size+1,[s1.heap.objs.size+1,s1.heap.objs.size],_,_,H1,rfl,I2,qkK b _ _ (Nat.succ_ne_self _),⟨⟨_,he⟩,hi⟩,λc hb=>?_,q⟩;rcases ybf.mp hb with rfl | hb
 .exact I1.fpOk (by omega) (I1.hok.fresh (by omega))
 .obtain rfl:c=s1.heap.objs.size:=by simpa using hb
  exact I1.fpOk (yaz _) (I1.hok.fresh (yaz _))
theorem qoS {K:PySem.W.Frag}:qiw 2 (qtZ K 2 (qom (qh4 0) (qom (qh4 1) qtA))):=by
 intro v cs H Q h;obtain⟨a,xs,e,hq,hl,v0,r0,e0,v1,r1,e1,e2,q⟩:=h;refine⟨a,xs,e,hq,hl,v0,r0,e0,v1,r1,e1,e2,λj u z=>?_,q⟩
 match j with
 | 0=>simp at z
 | 1=>simp at z
 | j+2=>simpa using z
end
section
variable {K:PySem.W.Frag}{g:TG}{σ:St}{H:Hp}{a:Addr}{nt:Nat}{caps:List Nat}{tt:TT}{te:TE}{Q:VK}{ta:TA}
theorem qp6:qfY nt caps (qr8 K ta) g tt te σ H Q↔ta σ H λvs H1=>∃a xs,vs=[.ref a]/\SqL K H1 a xs/\qcH (Ite K a) nt caps g tt te σ H1 Q:=Iff.rfl
theorem qr5 {fs:List Nat}(c:Nat->Nat->Bool)(f:Nat->V)(hq:SqL K H a (nV fs))(hz:fs.length<=1000)
 (hs:∀i x,fs[i]?=some x->∀(R:VK) (R':Hp->Prop) (H1:Hp) (t:Addr),qar H H1->H1 t=some (.tup [.int (i:Nat),.int (x:Nat)])->(c i x=true->R (f i) H1)->(c i x=false->R' H1) ->
  g (.ref t) (qa2 nt caps σ) H1 λσ4 H4=>tt σ4 H4 λb H5=>if b=true then te σ4 H5 R else R' H5)
 (hd:∀H1 p,qar H H1->H1 p=none->Q (.ref p) (upd H1 p (.lst (((List.range fs.length).filter λi=>c i (fs.getD i 0)).map f)))):qcH (Ite K a) nt caps g tt te σ H Q:=by
 refine⟨λi m ys H1=>m=fs.length-i/\i<=fs.length/\qar H H1/\ys=((List.range i).filter λi=>c i (fs.getD i 0)).map f,⟨_,rfl,ybz _,qar.refl _,rfl⟩,?_⟩;rintro i m ys H2 ⟨rfl,hi,s2,rfl⟩;have hq2:=s2.seq hq
 have hy:(((List.range i).filter λi=>c i (fs.getD i 0)).map f).length<=i:=by
  rw[ycd];exact ybn (ybo _ _) (by simp)
 by_cases hlt:i<fs.length
 .have hx:fs[i]?=some fs[i]:=yck hlt
  have hd0:fs.getD i 0=fs[i]:=by rw[ycj,hx];rfl
  refine .inr ⟨⟨nV fs,_,hq2,qkl hx⟩,qcv (by omega),λv H3 y=>?_⟩;obtain⟨t,rfl,ht,y⟩:=y;have e3:=y _ _ hq2 (qkl hx);have s3:qar H2 H3:=by rw[e3];exact qar.new ht
  refine hs i fs[i] hx _ _ H3 t (s2.trans s3) (by rw[e3,qag]) (λhc=>⟨fs.length-(i+1),by omega,rfl,hlt,s2.trans s3,?_⟩) λhc=>⟨fs.length-(i+1),by omega,rfl,hlt,s2.trans s3,?_⟩
  .rw[yds,yaw,ycv,ycf,hd0,hc,List.filter_nil];rfl
  .rw[yds,yaw,ycv,ycf,hd0,hc,List.filter_nil];exact(yed _).symm
 .obtain rfl:i=fs.length:=by omega
  exact .inl ⟨⟨nV fs,hq2,by rw[qaP];exact yaz _⟩,qau (by omega),λp hp=>hd H2 p s2 hp⟩
end
section
variable {g:TG}{tb:TS}{D:qfX}{σ:St}{H:Hp}
theorem qtd {l:Int}{lo n:Nat}(e:l=(lo:Nat))(Pv:Nat->St->Hp->Prop)(h0:Pv 0 σ H)
 (hs:∀i σ H,i<n->Pv i σ H->∀N:St->Hp->Prop,(∀σ' H',Pv (i+1) σ' H'->N σ' H')->g (.int ((lo+i:Nat))) σ H λσ2 H2=>tb { D with nx:=N,ct:=N,bk:=D.nx } σ2 H2)(hd:∀σ H,Pv n σ H->D.nx σ H):qcT (Itr l n) g tb D σ H :=
 qqp Pv h0 (λi σ H hi p=>by
  rw[e,show((lo:Nat):Int)+(i:Nat)=((lo+i:Nat):Int) by omega];exact hs i σ H hi p _ λ_ _ q=>q) hd
def qgZ (H0 H:Hp)(p:Addr)(LL:List (List Nat))(ps:List Addr):Prop:=H0 p=none/\H p=some (.lst (ps.map V.ref))/\ps.length=LL.length/\∀(j:Nat) (q:Addr) (L:List Nat),ps[j]?=some q->LL[j]?=some L->H0 q=none/\H q=some (.lst (nV L))
theorem qgZ.mono {H0 H H':Hp}{p:Addr}{LL:List (List Nat)}{ps:List Addr}(h:qgZ H0 H p LL ps)(s:qar H H'):qgZ H0 H' p LL ps :=
 ⟨h.1,s _ _ h.2.1,h.2.2.1,λj q L h1 h2=>⟨(h.2.2.2 j q L h1 h2).1,s _ _ (h.2.2.2 j q L h1 h2).2⟩⟩
theorem qgZ.back {H0 H1 H:Hp}{p:Addr}{LL:List (List Nat)}{ps:List Addr}(h:qgZ H1 H p LL ps)(s:qar H0 H1):qgZ H0 H p LL ps :=
 ⟨qaC s h.1,h.2.1,h.2.2.1,λj q L h1 h2=>⟨qaC s (h.2.2.2 j q L h1 h2).1,(h.2.2.2 j q L h1 h2).2⟩⟩
theorem qgZ.snoc {H0 H:Hp}{p r:Addr}{LL:List (List Nat)}{ps:List Addr}{L:List Nat}(h:qgZ H0 H p LL ps)(hr:H0 r=none)(hL:H r=some (.lst (nV L)))(hne:∀q∈ps,q≠p)(hrp:r≠p) :
 qgZ H0 (upd H p (.lst (ps.map V.ref++[.ref r]))) p (LL++[L]) (ps++[r]):=by
 refine⟨h.1,by rw[qag,ycv];rfl,by rw[ydq,ydq,h.2.2.1];rfl,λj q M h1 h2=>?_⟩
 have hj:j<ps.length\/j=ps.length:=by
  have:=(ycm.mp h1).1;rw[ydq] at this;simp at this;omega
 rcases hj with hj | hj
 .rw[yfe hj] at h1
  rw[yfe (by rw[<-h.2.2.1];exact hj)] at h2;have:=h.2.2.2 j q M h1 h2;rw[qay (hne q (ycl h1))];exact this
 .subst hj
  rw[yfc (yaz _),ygf] at h1;rw[h.2.2.1,yfc (yaz _),ygf] at h2;cases h1;cases h2;rw[qay hrp];exact⟨hr,hL⟩
theorem qgZ.at {H0 H:Hp}{p:Addr}{LL:List (List Nat)}{ps:List Addr}(h:qgZ H0 H p LL ps){j:Nat}(hj:j<ps.length):∃(q:Addr) (L:List Nat),ps[j]?=some q/\LL[j]?=some L/\L∈LL/\H q=some (.lst (nV L)):=by
 have e1:=yck hj;have e2:LL[j]?=some (LL[j]'(by rw[<-h.2.2.1];exact hj)):=yck _;exact⟨_,_,e1,e2,ycl e2,(h.2.2.2 j _ _ e1 e2).2⟩
theorem qgB {ps:List Addr}{i:Nat}{x:V}(h:(ps.map V.ref)[i]?=some x):∃q,ps[i]?=some q/\x = .ref q:=by
 rw[ycp] at h;cases e:ps[i]? with
 | none=>rw[e] at h;cases h
 | some q=>rw[e] at h;cases h;exact⟨q,rfl,rfl⟩
end
end L2
namespace L2
open PySem PySem.Spec PyProof.Rows
def rkV (cs:List Nat)(v:Nat):List Nat:=(List.range cs.length).filter λi=>decide (cs.getD i 0=v)
def rkd (cs:List Nat):List (List Nat):=(sd cs).reverse.map (rkV cs)
theorem qdu {cs:List Nat}{v i:Nat}:i∈rkV cs v↔i<cs.length/\cs.getD i 0=v:=by
 unfold rkV;rw[yba,ybj,decide_eq_true_eq]
theorem qoN (cs:List Nat)(v:Nat):(rkV cs v).Pairwise (· < ·):=ybi.sublist ybc
theorem qeg {cs L:List Nat}:L∈rkd cs↔∃v∈cs,L=rkV cs v:=by
 unfold rkd;rw[ybu];constructor
 .rintro⟨v,hv,rfl⟩
  exact⟨v,qgb.mp (ybt.mp hv),rfl⟩
 .rintro⟨v,hv,rfl⟩
  exact⟨v,ybt.mpr (qgb.mpr hv),rfl⟩
theorem qe3 (cs:List Nat):(rkd cs).Pairwise λL M=>∀x∈L,∀y∈M,cs.getD y 0<cs.getD x 0:=by
 unfold rkd;rw[ybw];have:(sd cs).reverse.Pairwise (· > ·):=ybv.mpr (qgY cs);refine this.imp λ{v u} h x hx y hy=>?_;rw[(qdu.mp hx).2,(qdu.mp hy).2];exact h
theorem qpj {cs L:List Nat}(h:L∈rkd cs):L≠[]:=by
 obtain⟨v,hv,rfl⟩:=qeg.mp h;obtain⟨i,hi,e⟩:=ygg.mp hv;have:i∈rkV cs v:=qdu.mpr ⟨hi,by rw[ycj,yck hi];exact e⟩;exact List.ne_nil_of_mem this
theorem qoF {cs L:List Nat}(h:L∈rkd cs):L.Pairwise (· < ·):=by
 obtain⟨v,hv,rfl⟩:=qeg.mp h;exact qoN _ _
theorem qjZ {cs L:List Nat}(h:L∈rkd cs){x y:Nat}(hx:x∈L)(hy:y∈L):cs.getD x 0=cs.getD y 0:=by
 obtain⟨v,hv,rfl⟩:=qeg.mp h;rw[(qdu.mp hx).2,(qdu.mp hy).2]
theorem qjD {cs L:List Nat}(h:L∈rkd cs){x:Nat}(hx:x∈L):x<cs.length:=by
 obtain⟨v,hv,rfl⟩:=qeg.mp h;exact(qdu.mp hx).1
theorem qcm {cs:List Nat}{x:Nat}:x∈(rkd cs).flatten↔x<cs.length:=by
 rw[ygh];constructor
 .rintro⟨L,h1,h2⟩
  exact qjD h1 h2
 .intro h
  refine⟨rkV cs cs[x],qeg.mpr ⟨cs[x],ydp h,rfl⟩,qdu.mpr ⟨h,?_⟩⟩;rw[ycj,yck h];rfl
theorem qd2 (cs:List Nat):(rkd cs).flatten.Nodup:=by
 unfold List.Nodup;rw[ygi];refine⟨λL hL=>(qoF hL).imp λh=>ydx h,(qe3 cs).imp λh x hx y hy e=>?_⟩;have:=h x hx y hy;rw[e] at this;exact absurd this (yen _)
theorem qji (cs:List Nat):(rkd cs).length<=cs.length:=by
 unfold rkd;rw[ycd,ygj];exact qnp cs (yaz _)
theorem qgs {cs L:List Nat}(h:L∈rkd cs):L.length<=cs.length:=by
 obtain⟨v,hv,rfl⟩:=qeg.mp h;exact ybn (ybo _ _) (by simp)
theorem qh5 (cs:List Nat):(rkd cs).flatten.length<=cs.length:=Fam.nodup_le cs.length _ (qd2 cs) λx hx=>qcm.mp hx
theorem qep {m k:Nat}{f:Nat->Bool}(h:k<m):(Fam.trns m f).getD k 0=Fam.trn m f k:=by
 unfold Fam.trns;rw[ycj,ycp,ycq h];rfl
theorem qbe (m:Nat)(f:Nat->Bool):(Fam.trns m f).length=m:=by simp[Fam.trns]
def qit (m:Nat)(f:Nat->Bool)(x y:Nat):Prop:=∀x' y',x'<y'->y'<m->(x'<x\/x'=x/\y'<y)->Fam.part m f x' y'=none\/Fam.part m f y' x'=none
theorem qit.all {m:Nat}{f:Nat->Bool}(h:qit m f m 0){x y:Nat}(hx:x<m)(hy:y<m)(hxy:x≠y):Fam.part m f x y=none\/Fam.part m f y x=none:=by
 rcases Nat.lt_or_gt_of_ne hxy with z | z
 .exact h x y z hy (.inl hx)
 .exact(h y x z hx (.inl hy)).symm
end L2
namespace L2
open PySem PySem.Spec PyProof.Rows
section
variable {m:Nat}{o cs cs':List Nat}
end
theorem qb1 {X:Cx}{K:PySem.W.Frag}{tg l:Expr}{tl:TE}(hK:X.K=K)(hl:PE X l tl):PI X tg l (qoe K tl):=hK▸qaE hl
end L2
namespace L2
open PySem PySem.Spec PyProof.Rows
section
variable {m:Nat}{f:Nat->Bool}
theorem qms (cs:List Nat):Fam.Ord cs.length (rkd cs).flatten:=by
 refine⟨?_,λx hx=>qcm.mp hx,qd2 cs⟩;have h1:=qh5 cs;have h2:=Fam.len_sub (List.range cs.length) (rkd cs).flatten ycc λx hx=>qcm.mpr (ybj.mp hx);rw[ygk] at h2;omega
theorem qkB (cs:List Nat):(rkd cs).flatten.Pairwise λx y=>cs.getD y 0<=cs.getD x 0:=by
 rw[ygi];refine⟨λL hL=>List.pairwise_iff_forall_sublist.mpr λ{x y} s=>?_,(qe3 cs).imp λh x hx y hy=>ydc (h x hx y hy)⟩;have hx:x∈L:=s.subset (by simp);have hy:y∈L:=s.subset (by simp);exact yeh (qjZ hL hy hx)
def Gvn (m:Nat)(LL:List (List Nat))(F N:List Nat):Prop:=N.length=m/\∀(j:Nat) (L:List Nat) (v:Nat),LL[j]?=some L->F[j]?=some v->∀k∈L,N.getD k 0=v
theorem qoW {cs F N N':List Nat}(hF:F.length=(rkd cs).length)(h:Gvn cs.length (rkd cs) F N)(h':Gvn cs.length (rkd cs) F N'):N=N':=by
 refine yej (h.1.trans h'.1.symm) λk hk hk'=>?_;have hm:k<cs.length:=by have:=h.1;omega
 obtain⟨L,hL,hk2⟩:=ygh.mp (qcm.mpr hm);obtain⟨j,hj,e⟩:=ygg.mp hL;have e1:(rkd cs)[j]?=some L:=by rw[yck hj,e]
 have e2:=yck (show j<F.length by omega);have a:=h.2 j L _ e1 e2 k hk2;have b:=h'.2 j L _ e1 e2 k hk2;rw[ycj,yck hk] at a;rw[ycj,yck hk'] at b;exact a.trans b.symm
theorem qsm (hm:m<=5)(u:Fam.Up m f)(h:qit m f m 0):∃(F N:List Nat) (b:Nat),F.length=(rkd (Fam.trns m f)).length/\F.Pairwise (· > ·)/\(∀x∈F,x<=5)/\Gvn m (rkd (Fam.trns m f)) F N/\∀s,s<2^m->f s=decide (b<=Fam.wt N s):=by
 have h8:m<=8:=by omega
 have ho:=qms (Fam.trns m f);rw[qbe] at ho;have hf:=qkB (Fam.trns m f);generalize eo:(rkd (Fam.trns m f)).flatten=o at ho hf;have hl:o.length=m:=ho.1
 have fall:∀i j,i<j->j<m->Fam.trn m f (Fam.at' o j)<=Fam.trn m f (Fam.at' o i):=λi j hij hj=>by
  have:=ycn.mp hf i j (by omega) (by omega) hij
  have e:∀k (hk:k<o.length),o[k]=Fam.at' o k:=λk hk=>by
   unfold Fam.at';rw[ycj,yck hk];rfl
  rw[e i (by omega),e j (by omega),qep (ho.at_lt hj),qep (ho.at_lt (show i<m by omega))] at this;exact this
 have ug:Fam.Up m λa=>f (Fam.ex o a):=λa b ha s hb=>u _ (Fam.ex o b) (Fam.ex_lt ho ha) ((Fam.ex_sub h8 ho ha (Fam.sub_lt s ha)).mpr s) hb
 have rg:Fam.Reg m λa=>f (Fam.ex o a):=λi j hij hj=>by
  refine Fam.part_ex_none (g:=f) h8 ho (λa _=>rfl) hj (by omega) ?_;have hne:Fam.at' o j≠Fam.at' o i:=λz=>by have:=ho.inj hj (by omega) z;omega
  exact(Fam.part_turns u hne (ho.at_lt hj) (ho.at_lt (by omega)) (h.all (ho.at_lt hj) (ho.at_lt (by omega)) hne)).mpr (fall i j hij hj)
 obtain⟨W,b,w5,wo,wf⟩:=Fam.reg_wt hm ug rg;have te:∀k,k<m->Fam.trn m (λa=>f (Fam.ex o a)) k=Fam.trn m f (Fam.at' o k):=λk hk=>(Fam.trn_ex (g:=f) h8 ho (λa _=>rfl) hk).symm
 -- by names
 let N:List Nat:=(List.range m).map λx=>W.getD (o.idxOf x) 0
 have Ne:∀k,k<m->N.getD (Fam.at' o k) 0=W.getD k 0:=λk hk=>by
  show((List.range m).map λx=>W.getD (o.idxOf x) 0).getD _ 0=_;rw[ycj,ycp,ycq (ho.at_lt hk)];show W.getD (o.idxOf (Fam.at' o k)) 0=_;rw[Fam.idx_at ho hk]
 have No:∀x y,x<m->y<m->(Fam.trn m f y<Fam.trn m f x↔N.getD y 0<N.getD x 0):=λx y hx hy=>by
  obtain⟨i,hi,rfl⟩:=ho.sur hx;obtain⟨j,hj,rfl⟩:=ho.sur hy;rw[Ne i hi,Ne j hj,<-te i hi,<-te j hj];exact wo i j hi hj
 have N5:∀x,x<m->N.getD x 0<=5:=λx hx=>by
  obtain⟨i,hi,rfl⟩:=ho.sur hx;rw[Ne i hi];exact w5 i hi
 have lr:∀{L:List Nat},L∈rkd (Fam.trns m f)->∀{x:Nat},x∈L->x<m:=λhL x hx=>by
  have:=qjD hL hx
  rwa [qbe] at this
 have hd:∀{L:List Nat},L∈rkd (Fam.trns m f)->L.headD 0∈L:=λ{L} hL=>by
  cases L with
  | nil=>exact absurd rfl (qpj hL)
  | cons a L=>exact ybd
 refine⟨(rkd (Fam.trns m f)).map λL=>N.getD (L.headD 0) 0,N,b,ycd ..,?_,λx hx=>?_,⟨by simp[N],λj L v hL hv k hk=>?_⟩,λs hs=>?_⟩
 .rw[ybw]
  refine List.Pairwise.imp_of_mem (λ{L M} hL hM z=>?_) (qe3 (Fam.trns m f));have:=z _ (hd hL) _ (hd hM);rw[qep (lr hL (hd hL)),qep (lr hM (hd hM))] at this;exact(No _ _ (lr hL (hd hL)) (lr hM (hd hM))).mp this
 .obtain⟨L,hL,rfl⟩:=ybu.mp hx
  exact N5 _ (lr hL (hd hL))
 .rw[ycp,hL] at hv
  cases hv;have mL:=ycl hL;have e:=qjZ mL hk (hd mL);rw[qep (lr mL hk),qep (lr mL (hd mL))] at e;have n1:=No _ _ (lr mL hk) (lr mL (hd mL));have n2:=No _ _ (lr mL (hd mL)) (lr mL hk);show N.getD k 0=N.getD (L.headD 0) 0;rw[e] at n1 n2;have:=yen (Fam.trn m f (L.headD 0));omega
 .obtain⟨a,ha,rfl⟩:∃a,a<2^m/\Fam.ex o a=s:=⟨_,Fam.ex_lt (Fam.back_ord ho) hs,Fam.ex_back h8 ho hs⟩
  rw[Fam.wt_ex h8 ho Ne ha];exact wf a ha
def fl:Nat->Nat->List (List Nat)
 | 0,_=>[[]]
 | n+1,M=>(List.range M).flatMap λa=>(fl n a).map (a::·)
theorem qpF:∀{F:List Nat}{M:Nat},F.Pairwise (· > ·)->(∀x∈F,x<M)->F∈fl F.length M
 | [],_,_,_=>by simp[fl]
 | a::F,M,hp,hl=>by
  have hp':=ybe.mp hp;exact yda.mpr ⟨a,ybj.mpr (hl a ybd),ybu.mpr ⟨F,qpF hp'.2 λx hx=>hp'.1 x hx,rfl⟩⟩
theorem qfn:∀{n M:Nat}{F:List Nat},F∈fl n M->F.length=n
 | 0,_,F,h=>by
  have:F=[]:=by simpa[fl] using h
  rw[this];rfl
 | n+1,M,F,h=>by
  obtain⟨a,_,h1⟩:=yda.mp h;obtain⟨G,h2,rfl⟩:=ybu.mp h1;rw[ycb,qfn h2]
theorem qmH {α β:Type}{g:α->List β}{c:Nat}:∀{L:List α},(∀a∈L,(g a).length<=c)->(L.flatMap g).length<=L.length*c
 | [],_=>by simp
 | a::L,h=>by
  have h1:=qmH (L:=L) λx hx=>h x (ybg _ hx);have h2:=h a ybd;rw[List.flatMap_cons,ydq,ycb,yfo];omega
theorem qoR:∀{n M:Nat},M<=6->(fl n M).length<=6^n
 | 0,_,_=>by simp[fl]
 | n+1,M,h=>by
  have:=qmH (L:=List.range M) (g:=λa=>(fl n a).map (a::·)) (c:=6^n) λa ha=>by
   rw[ycd];exact qoR (by have:=ybj.mp ha;omega)
  rw[ygk] at this;have e:(fl (n+1) M).length<=M*6^n:=this;refine ybn e ?_;rw[yak,Nat.mul_comm (6^n)];exact ygl _ h
end
end L2
namespace L2
open PySem PySem.Spec PyProof.Rows
section
variable {X:Cx}
theorem qk0:qcl X (.builtin "len") (λxs H Q=>∃p kvs,xs=[.ref p]/\H p=some (.dK kvs)/\Q (.int kvs.length) H):=by
 intro pins s σ H xs us Q I r h;obtain⟨p,kvs,rfl,hH,q⟩:=h;obtain⟨u,rfl,ru⟩:=qcz r;cases ru;obtain⟨z,y,vs,kv,d⟩:=I.hok p _ hH;have hl:kvs.length=vs.length:=Paired.length kv;have zz:sizeLine<2^63:=by decide
 refine call_len_dict y d (by omega) ⟨.int _,H,I.tok _,⟨_,by rw[hl]⟩,q⟩
end
end L2
namespace Fam
end Fam
namespace L2
open PySem PySem.Spec PyProof.Rows
section
variable {K:PySem.W.Frag}{g:TG}{tb:TS}{D:qfX}{σ:L2.St}{H:Hp}{a:Addr}{ta:TA}
end
inductive Pap (H:Hp)(fs gs:List Nat)(m:Nat):Nat->Nat->Nat->Addr->Prop
 | one {n ti to:Nat}{t:Addr}{j b:Nat}(h:H t=some (.tup [.str "one",.int (j:Nat)])) (h1:fs[j]?=some b) (h2:Fam.sub b ti):Pap H fs gs m (n+1) ti to t
 | other {n ti to:Nat}{t:Addr}{j b:Nat}(h:H t=some (.tup [.str "other",.int (j:Nat)])) (h1:gs[j]?=some b) (h2:Fam.sub b to):Pap H fs gs m (n+1) ti to t
 | name {n ti to:Nat}{t u v:Addr}{k:Nat}(h:H t=some (.tup [.str "name",.int (k:Nat),.ref u,.ref v])) (hk:k<m) (h1:ti.testBit k=false) (h2:to.testBit k=false) (p1:Pap H fs gs m n (ti|||2^k) to u) (p2:Pap H fs gs m n ti (to|||2^k) v):Pap H fs gs m (n+1) ti to t
end L2
namespace L2
open PySem PySem.Spec PyProof.Rows
theorem qeB {prog:Program}{w:World}{A:Around}{E:Value->Shared->Prop}{s:Shared}{id:String}{b:Builtin}{args:List Value}{kw:List (Str×Value)}{Q:Value->Shared->Prop}(hk:builtinKind id=none)(hp:plainId id=true)(hb:entryFor table id=some b)(ha:argsOk id ⟨args,kw⟩)
 (hc:wpAny (model prog w) A.in1 (b ⟨args,kw⟩) (λfin s'=>match fin with
  | .done f=>(match (Except.ok f:Result) with | .ok (.ret v)=>Q v s' | .ok _=>False | .error e=>E e s')
  | .again c=>c.quiet=true/\codeAny (model prog w) A c (λr s'=>match r with | .ok (.ret v)=>Q v s' | .ok _=>False | .error e=>E e s') s') E s) :
 wpAny (model prog w) A (call (.builtin id) args kw) Q E s:=by
 refine wpAny_call (codeAny_call_builtin hp hb ?_);simp only[checkBuiltinCall,hk];cases hsig:Manifest.signature? id with
 | none=>exact wpAny_pure hc
 | some sig =>
  have ha':Bind.checkArgs id sig ⟨args,kw⟩=pure ():=by simpa only[argsOk,hsig] using ha
  simp only[ha'];exact wpAny_pure hc
theorem qma (a d:Value):argsOk "max" ⟨[a],[("default",d)]⟩:=by unfold argsOk;kernel_rfl
section
variable {prog:Program}{w:World}{A:Around}{R:Result->Shared->Prop}{I:Addr}{fp wr:List Addr}{n:Nat}{P:Nat->Value->Prop}{St:Nat->Heap->Prop}{kw:List (Str×Value)}
theorem qsB (W:Walks prog w A.in1 I fp wr n P St)(bt:Nat->Nat->Bool)(hcmp:CmpOf prog w A.in1 .Gt P bt)(S:Addr)(hSf:S∉fp) :
 ∀(k j:Nat) (s:Shared) (vb:Value) (c:Nat),n-(j+1)=k->j+1<=n->St (j+1) s.heap->P (argBest bt j) vb ->
 s.heap.get? S=some { cls := .type "list",dict:=none,data := .seq #[vb,vb] c,slots:=#[] } ->
 (∀v h' tk,P (argBest bt (n-1)) v->(∀b o,b∉wr->b≠S->s.heap.get? b=some o->h'.get? b=some o)->R (.ok (.ret v)) { s with heap:=h',toks:=tk }) ->
 codeAny (model prog w) A (.builtin "max.loop" ⟨[.ref I,.none,.ref S],kw⟩) R s:=by
 have wS:S∉wr:=λz=>hSf (W.sub _ z);have nm:(toString "max" ++ toString ".loop" : String) = "max.loop" := by decide
 intro k
 induction k with
 | zero =>
  intro j s vb c hk hj hst hPb hS hR;have jn:j+1=n:=by omega
  refine codeAny_builtin F.entry_max_loop ?_;rw[Around.under_plainId F.plain_max_loop _];show wpAny _ A.in1 (seqItems? (.ref S) >>= _) _ _ s;refine wpAny_bind (wpAny_seqItems hS rfl ?_);show wpAny _ A.in1 (tryCatch (pyNext (.ref I)) _ >>= _) _ _ s;refine wpAny_bind (wpAny_tryCatch (W.done s _ _ (jn▸hst) λh1 tk kp=>?_));have gS:=kp S _ wS hS;show wpAny _ A.in1 (updateSeq S (λ_=>#[]) >>= _) _ _ _;refine wpAny_bind ?_;refine wpAny_updateSeq gS rfl (wpAny_bind (wpAny_letGo (wpAny_pure (hR vb _ tk (by rw[<-jn];exact hPb) λb o b1 b2 e=>?_))));exact(yeg _ _ (Ne.symm b2)).trans (kp b o b1 e)
 | succ k ih =>
  intro j s vb c hk hj hst hPb hS hR;have jn:j+1<n:=by omega
  refine codeAny_builtin F.entry_max_loop ?_;rw[Around.under_plainId F.plain_max_loop _];show wpAny _ A.in1 (seqItems? (.ref S) >>= _) _ _ s;refine wpAny_bind (wpAny_seqItems hS rfl ?_);show wpAny _ A.in1 (tryCatch (pyNext (.ref I)) _ >>= _) _ _ s;refine wpAny_bind (wpAny_tryCatch (W.item (j+1) s _ _ jn hst λv h1 tk hP st1 kp=>?_));have gS:=kp S _ wS hS;show wpAny _ A.in1 (tryCatch (holding [v,v] (richCompare .Gt v vb >>= _)) _ >>= _) _ _ _;refine wpAny_bind (wpAny_tryCatch (wpAny_holding (wpAny_bind (hcmp (j+1) (argBest bt j) v vb _ _ _ hP hPb ?_))));refine wpAny_bind (wpAny_holding (wpAny_truthy_bool (wpAny_bind (wpAny_letGo (wpAny_pure ?_)))));cases hb:bt (j+1) (argBest bt j) with
  | true =>
   rw[if_pos rfl];refine wpAny_bind ?_;refine wpAny_updateSeq gS rfl (wpAny_bind (wpAny_letGo ?_));rw[nm];refine wpAny_pure ⟨plainId_quiet F.plain_max_loop _,ih (j+1) _ v _ (by omega) jn (W.frame _ _ _ st1 λb hf o e=>?_) (by unfold argBest;rw[hb,if_pos rfl];exact hP) (ydr _ gS rfl) λv' h2 tk2 hP2 kp2=>?_⟩
   .exact(yeg _ _ (λz:S=b=>hSf (z▸hf))).trans e
   .exact hR v' h2 tk2 hP2 λb o b1 b2 e=>kp2 b o b1 b2 ((yeg _ _ (Ne.symm b2)).trans (kp b o b1 e))
  | false =>
   rw[if_neg (by decide)];refine wpAny_bind (wpAny_letGo ?_);rw[nm];refine wpAny_pure ⟨plainId_quiet F.plain_max_loop _,ih (j+1) _ vb c (by omega) jn st1 (by unfold argBest;rw[hb,if_neg (by decide)];exact hPb) gS λv' h2 tk2 hP2 kp2=>?_⟩;exact hR v' h2 tk2 hP2 λb o b1 b2 e=>kp2 b o b1 b2 (kp b o b1 e)
theorem qkI (W:Walks prog w A.in1 I fp wr n P St)(bt:Nat->Nat->Bool)(hcmp:CmpOf prog w A.in1 .Gt P bt)(S:Addr)(hSf:S∉fp){d:Value}{s:Shared}{c:Nat}(hst:St 0 s.heap)
 (hS:s.heap.get? S=some { cls := .type "list",dict:=none,data := .seq #[] c,slots:=#[] })
 (hR:∀v h' tk,(n=0/\v=d\/0<n/\P (argBest bt (n-1)) v)->(∀b o,b∉wr->b≠S->s.heap.get? b=some o->h'.get? b=some o)->R (.ok (.ret v)) { s with heap:=h',toks:=tk }) :
 codeAny (model prog w) A (.builtin "max.loop" ⟨[.ref I,.none,.ref S],[("default",d)]⟩) R s:=by
 have wS:S∉wr:=λz=>hSf (W.sub _ z);have nm:(toString "max" ++ toString ".loop" : String) = "max.loop" := by decide
 refine codeAny_builtin F.entry_max_loop ?_;rw[Around.under_plainId F.plain_max_loop _];show wpAny _ A.in1 (seqItems? (.ref S) >>= _) _ _ s;refine wpAny_bind (wpAny_seqItems hS rfl ?_);rcases yde n with hn | hn
 .show wpAny _ A.in1 (tryCatch (pyNext (.ref I)) _ >>= _) _ _ s;refine wpAny_bind (wpAny_tryCatch (W.done s _ _ (hn.symm▸hst) λh1 tk kp=>?_))
  show wpAny _ A.in1 (rule _ >>= _) _ _ _;refine wpAny_bind (wpAny_rule (wpAny_pure (hR d h1 tk (.inl ⟨hn,rfl⟩) λb o b1 b2 e=>kp b o b1 e)))
 .show wpAny _ A.in1 (tryCatch (pyNext (.ref I)) _ >>= _) _ _ s;refine wpAny_bind (wpAny_tryCatch (W.item 0 s _ _ hn hst λv h1 tk hP st1 kp=>?_))
  have gS:=kp S _ wS hS;show wpAny _ A.in1 (updateSeq S (λ_=>#[v,v]) >>= _) _ _ _;refine wpAny_bind ?_;refine wpAny_updateSeq gS rfl ?_;rw[nm];refine wpAny_pure ⟨plainId_quiet F.plain_max_loop _,qsB W bt hcmp S hSf _ 0 _ v _ rfl hn (W.frame _ _ _ st1 λb hf o e=>?_) hP (ydr _ gS rfl) λv' h2 tk2 hP2 kp2=>?_⟩
  .exact(yeg _ _ (λz:S=b=>hSf (z▸hf))).trans e
  .exact hR v' h2 tk2 (.inr ⟨hn,hP2⟩) λb o b1 b2 e=>kp2 b o b1 b2 ((yeg _ _ (Ne.symm b2)).trans (kp b o b1 e))
end
section
variable {prog:Program}{w:World}{A:Around}{E:Value->Shared->Prop}{s:Shared}
theorem qnG {l:Addr}{vs:List Value}{ns:List Int}{d:Value}{Q:Value->Shared->Prop}(hh:A.handled=none)(hl:s.heap.IsList l vs.toArray)(hi:IntsAre vs ns)
 (h:∀v h' tk,(ns=[]/\v=d\/∃M t,v = .int M t/\M∈ns/\∀a∈ns,a<=M)->(∀b o,s.heap.get? b=some o->h'.get? b=some o)->Q v { s with heap:=h',toks:=tk }) :
 wpAny (model prog w) A (call (.builtin "max") [.ref l] [("default",d)]) Q E s:=by
 have nm:(toString "max" ++ toString ".loop" : String) = "max.loop" := by decide
 obtain⟨xs,e⟩:=hi.allInts.items;have hns:ns=xs.toList.map (·.1):=by rw[<-hi.numsOf,<-nums_intItems,<-e]
 rw[e] at hl;refine qeB F.kind_max F.plain_max F.entry_max (qma _ _) ?_;show wpAny _ A.in1 (Builtin.Builtins.bindParams "max" ["key", "default"] 0 ⟨[],[("default",d)]⟩ >>= _) _ _ s;refine wpAny_bind (wpAny_of_eq (show Builtin.Builtins.bindParams "max" ["key", "default"] 0 ⟨[],[("default",d)]⟩=pure [none,some d] from rfl) (wpAny_bind (wpAny_pure ?_)));refine wpAny_bind (iter_intList hl λs2 e2 st hfp hlI=>?_);have hSf:s2.heap.objs.size∉[s.heap.objs.size,l]:=λhm=>yen _ (hfp _ hm);have W:=Walks.list (prog:=prog) (w:=w) (A:=A.in1) hh s.heap.objs.size l hlI (intItems xs);refine wpAny_bind (wpAny_newObj_type ?_);rw[nm];refine wpAny_pure ⟨plainId_quiet F.plain_max_loop _,qkI W _ (CmpOf.ints_gt (numAt xs) (λ_ _=>intItems_at)) s2.heap.objs.size hSf (d:=d) (W.frame _ _ _ st λb _ o q=>ydu _ q) (ydt _ rfl) λv h1 tk hP kp=>?_⟩;subst e2;refine h v h1 tk ?_ (old_kept λb o b1 q=>kp b o b1 (ydx (ydv q)) (ydu _ q));have sz:(intItems xs).size=xs.size:=by simp[intItems]
 rcases hP with⟨h0,rfl⟩ | ⟨h0,hP⟩
 .refine .inl ⟨?_,rfl⟩
  rw[hns,ygm,<-yec,ydh];omega
 .obtain⟨t,rfl⟩:=intItems_at hP
  obtain⟨h1,h2⟩:=argBest_gt (numAt xs) ((intItems xs).size-1);refine .inr ⟨_,t,rfl,?_,λa ha=>?_⟩
  .rw[hns,numAt_eq];exact getD_mem (by rw[ycd,ydh];omega)
  .rw[hns] at ha;obtain⟨j,hj,rfl⟩:=mem_getD ha
   rw[ycd,ydh] at hj;rw[<-numAt_eq];exact h2 j (by omega)
end
theorem qml (a d:Value):argsOk "min" ⟨[a],[("default",d)]⟩:=by unfold argsOk;kernel_rfl
section
variable {prog:Program}{w:World}{A:Around}{R:Result->Shared->Prop}{I:Addr}{fp wr:List Addr}{n:Nat}{P:Nat->Value->Prop}{St:Nat->Heap->Prop}{kw:List (Str×Value)}
theorem qsV (W:Walks prog w A.in1 I fp wr n P St)(bt:Nat->Nat->Bool)(hcmp:CmpOf prog w A.in1 .Lt P bt)(S:Addr)(hSf:S∉fp) :
 ∀(k j:Nat) (s:Shared) (vb:Value) (c:Nat),n-(j+1)=k->j+1<=n->St (j+1) s.heap->P (argBest bt j) vb ->
 s.heap.get? S=some { cls := .type "list",dict:=none,data := .seq #[vb,vb] c,slots:=#[] } ->
 (∀v h' tk,P (argBest bt (n-1)) v->(∀b o,b∉wr->b≠S->s.heap.get? b=some o->h'.get? b=some o)->R (.ok (.ret v)) { s with heap:=h',toks:=tk }) ->
 codeAny (model prog w) A (.builtin "min.loop" ⟨[.ref I,.none,.ref S],kw⟩) R s:=by
 have wS:S∉wr:=λz=>hSf (W.sub _ z);have nm:(toString "min" ++ toString ".loop" : String) = "min.loop" := by decide
 intro k
 induction k with
 | zero =>
  intro j s vb c hk hj hst hPb hS hR;have jn:j+1=n:=by omega
  refine codeAny_builtin F.entry_min_loop ?_;rw[Around.under_plainId F.plain_min_loop _];show wpAny _ A.in1 (seqItems? (.ref S) >>= _) _ _ s;refine wpAny_bind (wpAny_seqItems hS rfl ?_);show wpAny _ A.in1 (tryCatch (pyNext (.ref I)) _ >>= _) _ _ s;refine wpAny_bind (wpAny_tryCatch (W.done s _ _ (jn▸hst) λh1 tk kp=>?_));have gS:=kp S _ wS hS;show wpAny _ A.in1 (updateSeq S (λ_=>#[]) >>= _) _ _ _;refine wpAny_bind ?_;refine wpAny_updateSeq gS rfl (wpAny_bind (wpAny_letGo (wpAny_pure (hR vb _ tk (by rw[<-jn];exact hPb) λb o b1 b2 e=>?_))));exact(yeg _ _ (Ne.symm b2)).trans (kp b o b1 e)
 | succ k ih =>
  intro j s vb c hk hj hst hPb hS hR;have jn:j+1<n:=by omega
  refine codeAny_builtin F.entry_min_loop ?_;rw[Around.under_plainId F.plain_min_loop _];show wpAny _ A.in1 (seqItems? (.ref S) >>= _) _ _ s;refine wpAny_bind (wpAny_seqItems hS rfl ?_);show wpAny _ A.in1 (tryCatch (pyNext (.ref I)) _ >>= _) _ _ s;refine wpAny_bind (wpAny_tryCatch (W.item (j+1) s _ _ jn hst λv h1 tk hP st1 kp=>?_));have gS:=kp S _ wS hS;show wpAny _ A.in1 (tryCatch (holding [v,v] (richCompare .Lt v vb >>= _)) _ >>= _) _ _ _;refine wpAny_bind (wpAny_tryCatch (wpAny_holding (wpAny_bind (hcmp (j+1) (argBest bt j) v vb _ _ _ hP hPb ?_))));refine wpAny_bind (wpAny_holding (wpAny_truthy_bool (wpAny_bind (wpAny_letGo (wpAny_pure ?_)))));cases hb:bt (j+1) (argBest bt j) with
  | true =>
   rw[if_pos rfl];refine wpAny_bind ?_;refine wpAny_updateSeq gS rfl (wpAny_bind (wpAny_letGo ?_));rw[nm];refine wpAny_pure ⟨plainId_quiet F.plain_min_loop _,ih (j+1) _ v _ (by omega) jn (W.frame _ _ _ st1 λb hf o e=>?_) (by unfold argBest;rw[hb,if_pos rfl];exact hP) (ydr _ gS rfl) λv' h2 tk2 hP2 kp2=>?_⟩
   .exact(yeg _ _ (λz:S=b=>hSf (z▸hf))).trans e
   .exact hR v' h2 tk2 hP2 λb o b1 b2 e=>kp2 b o b1 b2 ((yeg _ _ (Ne.symm b2)).trans (kp b o b1 e))
  | false =>
   rw[if_neg (by decide)];refine wpAny_bind (wpAny_letGo ?_);rw[nm];refine wpAny_pure ⟨plainId_quiet F.plain_min_loop _,ih (j+1) _ vb c (by omega) jn st1 (by unfold argBest;rw[hb,if_neg (by decide)];exact hPb) gS λv' h2 tk2 hP2 kp2=>?_⟩;exact hR v' h2 tk2 hP2 λb o b1 b2 e=>kp2 b o b1 b2 (kp b o b1 e)
theorem qmS (W:Walks prog w A.in1 I fp wr n P St)(bt:Nat->Nat->Bool)(hcmp:CmpOf prog w A.in1 .Lt P bt)(S:Addr)(hSf:S∉fp){d:Value}{s:Shared}{c:Nat}(hst:St 0 s.heap)
 (hS:s.heap.get? S=some { cls := .type "list",dict:=none,data := .seq #[] c,slots:=#[] })
 (hR:∀v h' tk,(n=0/\v=d\/0<n/\P (argBest bt (n-1)) v)->(∀b o,b∉wr->b≠S->s.heap.get? b=some o->h'.get? b=some o)->R (.ok (.ret v)) { s with heap:=h',toks:=tk }) :
 codeAny (model prog w) A (.builtin "min.loop" ⟨[.ref I,.none,.ref S],[("default",d)]⟩) R s:=by
 have wS:S∉wr:=λz=>hSf (W.sub _ z);have nm:(toString "min" ++ toString ".loop" : String) = "min.loop" := by decide
 refine codeAny_builtin F.entry_min_loop ?_;rw[Around.under_plainId F.plain_min_loop _];show wpAny _ A.in1 (seqItems? (.ref S) >>= _) _ _ s;refine wpAny_bind (wpAny_seqItems hS rfl ?_);rcases yde n with hn | hn
 .show wpAny _ A.in1 (tryCatch (pyNext (.ref I)) _ >>= _) _ _ s;refine wpAny_bind (wpAny_tryCatch (W.done s _ _ (hn.symm▸hst) λh1 tk kp=>?_))
  show wpAny _ A.in1 (rule _ >>= _) _ _ _;refine wpAny_bind (wpAny_rule (wpAny_pure (hR d h1 tk (.inl ⟨hn,rfl⟩) λb o b1 b2 e=>kp b o b1 e)))
 .show wpAny _ A.in1 (tryCatch (pyNext (.ref I)) _ >>= _) _ _ s;refine wpAny_bind (wpAny_tryCatch (W.item 0 s _ _ hn hst λv h1 tk hP st1 kp=>?_))
  have gS:=kp S _ wS hS;show wpAny _ A.in1 (updateSeq S (λ_=>#[v,v]) >>= _) _ _ _;refine wpAny_bind ?_;refine wpAny_updateSeq gS rfl ?_;rw[nm];refine wpAny_pure ⟨plainId_quiet F.plain_min_loop _,qsV W bt hcmp S hSf _ 0 _ v _ rfl hn (W.frame _ _ _ st1 λb hf o e=>?_) hP (ydr _ gS rfl) λv' h2 tk2 hP2 kp2=>?_⟩
  .exact(yeg _ _ (λz:S=b=>hSf (z▸hf))).trans e
  .exact hR v' h2 tk2 (.inr ⟨hn,hP2⟩) λb o b1 b2 e=>kp2 b o b1 b2 ((yeg _ _ (Ne.symm b2)).trans (kp b o b1 e))
end
section
variable {prog:Program}{w:World}{A:Around}{E:Value->Shared->Prop}{s:Shared}
theorem qnu {l:Addr}{vs:List Value}{ns:List Int}{d:Value}{Q:Value->Shared->Prop}(hh:A.handled=none)(hl:s.heap.IsList l vs.toArray)(hi:IntsAre vs ns)
 (h:∀v h' tk,(ns=[]/\v=d\/∃M t,v = .int M t/\M∈ns/\∀a∈ns,M<=a)->(∀b o,s.heap.get? b=some o->h'.get? b=some o)->Q v { s with heap:=h',toks:=tk }) :
 wpAny (model prog w) A (call (.builtin "min") [.ref l] [("default",d)]) Q E s:=by
 have nm:(toString "min" ++ toString ".loop" : String) = "min.loop" := by decide
 obtain⟨xs,e⟩:=hi.allInts.items;have hns:ns=xs.toList.map (·.1):=by rw[<-hi.numsOf,<-nums_intItems,<-e]
 rw[e] at hl;refine qeB F.kind_min F.plain_min F.entry_min (qml _ _) ?_;show wpAny _ A.in1 (Builtin.Builtins.bindParams "min" ["key", "default"] 0 ⟨[],[("default",d)]⟩ >>= _) _ _ s;refine wpAny_bind (wpAny_of_eq (show Builtin.Builtins.bindParams "min" ["key", "default"] 0 ⟨[],[("default",d)]⟩=pure [none,some d] from rfl) (wpAny_bind (wpAny_pure ?_)));refine wpAny_bind (iter_intList hl λs2 e2 st hfp hlI=>?_);have hSf:s2.heap.objs.size∉[s.heap.objs.size,l]:=λhm=>yen _ (hfp _ hm);have W:=Walks.list (prog:=prog) (w:=w) (A:=A.in1) hh s.heap.objs.size l hlI (intItems xs);refine wpAny_bind (wpAny_newObj_type ?_);rw[nm];refine wpAny_pure ⟨plainId_quiet F.plain_min_loop _,qmS W _ (CmpOf.ints_lt (numAt xs) (λ_ _=>intItems_at)) s2.heap.objs.size hSf (d:=d) (W.frame _ _ _ st λb _ o q=>ydu _ q) (ydt _ rfl) λv h1 tk hP kp=>?_⟩;subst e2;refine h v h1 tk ?_ (old_kept λb o b1 q=>kp b o b1 (ydx (ydv q)) (ydu _ q));have sz:(intItems xs).size=xs.size:=by simp[intItems]
 rcases hP with⟨h0,rfl⟩ | ⟨h0,hP⟩
 .refine .inl ⟨?_,rfl⟩
  rw[hns,ygm,<-yec,ydh];omega
 .obtain⟨t,rfl⟩:=intItems_at hP
  obtain⟨h1,h2⟩:=argBest_lt (numAt xs) ((intItems xs).size-1);refine .inr ⟨_,t,rfl,?_,λa ha=>?_⟩
  .rw[hns,numAt_eq];exact getD_mem (by rw[ycd,ydh];omega)
  .rw[hns] at ha;obtain⟨j,hj,rfl⟩:=mem_getD ha
   rw[ycd,ydh] at hj;rw[<-numAt_eq];exact h2 j (by omega)
end
section
variable {X:Cx}{K:PySem.W.Frag}{x:Str}{id:String}{e e2:Expr}{t tk:TA}{p pos kpos:Pos}
def qm3 (X:Cx)(f:Value)(r:List V->List V->Hp->VK->Prop):Prop :=
 ∀(pins:List (Addr×Obj)) (s:Shared) (σ:St) (H:Hp) (xs zs:List V) (us ws:List Value) (Q:VK),Inv X pins σ H s->qaN xs us->qaN zs ws->r xs zs H Q ->
  wpAny (model X.prog X.w) X.A (call f us ((["default"]:List Str).zip ws)) (EP X pins σ Q) X.xe s
def qun (r:List V->List V->Hp->VK->Prop)(t tk:TA):TE:=λσ H Q=>t σ H λvs H1=>tk σ H1 λzs H2=>r vs zs H2 Q
theorem qhR {r:List V->List V->Hp->VK->Prop}(hc:qm3 X (.builtin id) r)(hg:Gl X x)(hm:X.mg x=none)(hv:bootBuiltins x=some (.builtin id))(ha:PA X [e] t)(hkw:PK X [⟨some "default",e2,kpos⟩] tk)(hn:x ≠ "__name__" := by decide)(hdb:(x==("__debug__" : Str))=false:=by decide)
 (he:backTo pos (starEach [e] X.env)=(false,eval e X.env)::backTo pos (starEach [] X.env):=by rfl):PE X (.Call (.Name x p) [e] [⟨some "default",e2,kpos⟩] pos) (qun r t tk):=by
 intro pins s σ H Q I h;refine wpAny_Call_Name_kw (qdc I hg hm hv ?_ hn hdb);refine PyProof.Rows.callWith_kw (thn (ha pos pins s σ H _ I h) λus s1 ⟨vs,H1,I1,r1,q1⟩=>?_) he (by rw[he];rfl);exact thn (hkw pos pins s1 σ H1 _ I1 q1) λws s2 ⟨zs,H2,I2,r2,q2⟩=>hc pins s2 σ H2 vs zs us ws Q I2 r1 r2 q2
def qtU (K:PySem.W.Frag):List V->List V->Hp->VK->Prop:=λxs zs H Q=>∃(l:Addr) (ns:List Int) (d:Int),xs=[.ref l]/\zs=[.int d]/\SqL K H l (ns.map V.int)/\∀M:Int,(ns=[]/\M=d\/M∈ns/\∀a∈ns,a<=M)->Q (.int M) H
def qtD (K:PySem.W.Frag):List V->List V->Hp->VK->Prop:=λxs zs H Q=>∃(l:Addr) (ns:List Int) (d:Int),xs=[.ref l]/\zs=[.int d]/\SqL K H l (ns.map V.int)/\∀M:Int,(ns=[]/\M=d\/M∈ns/\∀a∈ns,M<=a)->Q (.int M) H
theorem qmr (hc:X.calm=true)(hK:X.K=K):qm3 X (.builtin "max") (qtU K):=by
 subst hK;intro pins s σ H xs zs us ws Q I r rz h;obtain⟨l,ns,d,rfl,rfl,hq,q⟩:=h;obtain⟨u,rfl,ru⟩:=qcz r;obtain⟨w',rfl,t,rfl⟩:=qcz rz;cases ru;obtain⟨its,rv,pl,hz⟩:=I.list hq;refine qnG (I.ok.hd hc) pl.isList (qca rv) λv h1 tk hv kp=>?_;rcases hv with⟨h0,rfl⟩ | ⟨M,t',rfl,h1',h2'⟩
 .exact⟨.int d,H,I.kept (t':=tk) kp,⟨t,rfl⟩,q d (.inl ⟨h0,rfl⟩)⟩
 .exact⟨.int M,H,I.kept (t':=tk) kp,⟨t',rfl⟩,q M (.inr ⟨h1',h2'⟩)⟩
theorem qkV (hc:X.calm=true)(hK:X.K=K):qm3 X (.builtin "min") (qtD K):=by
 subst hK;intro pins s σ H xs zs us ws Q I r rz h;obtain⟨l,ns,d,rfl,rfl,hq,q⟩:=h;obtain⟨u,rfl,ru⟩:=qcz r;obtain⟨w',rfl,t,rfl⟩:=qcz rz;cases ru;obtain⟨its,rv,pl,hz⟩:=I.list hq;refine qnu (I.ok.hd hc) pl.isList (qca rv) λv h1 tk hv kp=>?_;rcases hv with⟨h0,rfl⟩ | ⟨M,t',rfl,h1',h2'⟩
 .exact⟨.int d,H,I.kept (t':=tk) kp,⟨t,rfl⟩,q d (.inl ⟨h0,rfl⟩)⟩
 .exact⟨.int M,H,I.kept (t':=tk) kp,⟨t',rfl⟩,q M (.inr ⟨h1',h2'⟩)⟩
end
end L2
namespace L2
open PySem PySem.Spec PyProof.Rows
section
variable {X:Cx}{pins:List (Addr×Obj)}{σ:St}{H:Hp}{s:Shared}{h':Heap}{K:PySem.W.Frag}
theorem Inv.turnedL {t':Nat}{ch:List Addr}(I:Inv X pins σ H s) (k:∀b o,b∉ch->s.heap.get? b=some o->h'.get? b=some o) (f:∀b∈ch,qhL X pins H b):Inv X pins σ H { s with heap:=h',toks:=t' }:=by
 have nit:∀b u,H b=some u->b∉ch:=λb u q z=>by rw[(f b z).1] at q;cases q
 refine I.step (g':=s.gens) (d':=s.drawn) (ch:=ch) (λb hb=>⟨(f b hb).2.2.2.1,(f b hb).2.1,(f b hb).2.2.2.2.1,(f b hb).2.2.2.2.2⟩) (λb o _ _ hc q _=>k b o hc q) (λb o _ _ hc q _=>⟨o.slots,k b o hc q⟩) (λ_ _ _ _ n=>n)
  (λb o hc q=>⟨o,k b o hc q⟩) (λ_ _ q=>q) (λ_ _ _ q=>q) (λb ps q=>⟨#[],by rw[q];simp⟩) (λm hm=>?_) (λb u q=>?_) I.bare
 .obtain⟨o,es,ep,ho,r⟩:=hm
  exact⟨o,es,ep,k _ o (λz=>(f _ z).2.1 rfl) ho,r⟩
 .refine(I.hok b u q).stay (λc v hc z=>k c v ?_ z) (λ_ z=>z) λ_ _ z=>z
  rcases hc with y | y
  .rw[y];exact nit b u q
  .exact nit c _ y
def Itz (K:PySem.W.Frag)(a b:Addr):It :=
 ⟨λi H=>∃xs ys x y,SqL K H a xs/\SqL K H b ys/\xs[i]?=some x/\ys[i]?=some y,λi H v H'=>∃t,v = .ref t/\H t=none/\∀xs ys x y,SqL K H a xs->SqL K H b ys->xs[i]?=some x->ys[i]?=some y->H'=upd H t (.tup [x,y]),
  λi H=>∃xs ys,SqL K H a xs/\SqL K H b ys/\(xs.length<=i\/ys.length<=i)⟩
theorem qnA {P:Program}{w:World}{elts:List Expr}{x1:Nat}{pos:Pos}(a b z TI TO i1 i2:Addr)(D:ZipApart z TI TO i1 i2 a b):qlr P w K (.Tuple elts x1 pos) (Itz K a b) [z,TI,TO,i1,i2] z
 (λi h=>IsZip h z TI TO .none/\IsPair h TI (.ref i1) (.ref i2)/\(∃c d,IsPair h TO c d)/\h.IsListIter i1 a i/\h.IsListIter i2 b i) where
 mem:=by simp
 obj:=λi h st c hc=>by
  obtain⟨hz,h1,⟨c1,d1,h2⟩,⟨o1,e1,_,q1⟩,⟨o2,e2,_,q2⟩⟩:=st;simp only[ybf,ydz,or_false] at hc;rcases hc with rfl | rfl | rfl | rfl | rfl
  .exact⟨_,hz,λv y=>by have y':Data.fields _=Data.cell v:=y;cases y'⟩
  .exact⟨_,h1,λv y=>by have y':Data.seq _ _=Data.cell v:=y;cases y'⟩
  .exact⟨_,h2,λv y=>by have y':Data.seq _ _=Data.cell v:=y;cases y'⟩
  .exact⟨o1,e1,λv y=>by rw[q1] at y;cases y⟩
  .exact⟨o2,e2,λv y=>by rw[q2] at y;cases y⟩
 keep:=λi h h' st k=>by
  obtain⟨hz,h1,⟨c1,d1,h2⟩,h3,h4⟩:=st;exact⟨k z (by simp) _ hz,k TI (by simp) _ h1,⟨c1,d1,k TO (by simp) _ h2⟩,h3.at λo q=>k i1 (by simp) o q,h4.at λo q=>k i2 (by simp) o q⟩
 item:=by
  intro X hP hw hK hc i pins s σ H E I hf st hg;subst hP hw hK;obtain⟨xs,ys,x,y,hqa,hqb,hx,hy⟩:=hg;obtain⟨itsa,rva,pa,hza⟩:=I.list hqa;obtain⟨itsb,rvb,pb,hzb⟩:=I.list hqb;obtain⟨u,hu,ru⟩:=rva.get hx;obtain⟨v,hv,rv⟩:=rvb.get hy;obtain⟨hz,h1,⟨c1,d1,h2⟩,h3,h4⟩:=st;have fr:=I.hok.fresh (yaz s.heap.objs.size)
  have lt:∀c∈[z,TI,TO,i1,i2],c<s.heap.objs.size:=λc hc=>by
   simp only[ybf,ydz,or_false] at hc;rcases hc with rfl | rfl | rfl | rfl | rfl
   .exact ydv hz
   .exact ydv h1
   .exact ydv h2
   .obtain⟨_,q,_⟩:=h3;exact ydv q
   .obtain⟨_,q,_⟩:=h4;exact ydv q
  refine wpAny_pyNext_zip_item D hz h1 h2 h3 h4 pa.isList pb.isList (x:=u) (y:=v) (by simpa using hu) (by simpa using hv) λh' a1 a2 a3 a4 a5 a6 hk=>⟨_,rfl,?_⟩;refine wpAny_letOwnedTupleGo_zip (s:={ s with heap:=h' }) a1 λg2 hz2 hs2=>?_
  have I1:Inv X pins σ (upd H s.heap.objs.size (.tup [x,y])) { s with heap:=s.heap.push { cls := .type "tuple",data := .seq #[u,v] },toks:=s.toks } :=
   I.laid (t':=s.toks) (λb u e=>ydu _ e) (yaz _) ⟨by simp;decide,[u,v],.cons ru (.cons rv .nil),⟨_,ydt _ rfl,rfl,_,rfl⟩⟩
  have up:∀c∈[z,TI,TO,i1,i2],upd H s.heap.objs.size (.tup [x,y]) c=none:=λc hc=>by
   rw[qay (ydx (lt c hc))];exact(hf c hc).1
  have I2:Inv X pins σ (upd H s.heap.objs.size (.tup [x,y])) { s with heap:=g2,toks:=s.toks }
   := Inv.turnedL (s:={ s with heap:=s.heap.push { cls := .type "tuple",data := .seq #[u,v] },toks:=s.toks }) (h':=g2) (t':=s.toks) (ch:=[z,TI,TO,i1,i2]) I1 (λb o hb q=>by
   simp only[ybf,ydz,or_false,not_or] at hb;rw[hs2.2 b hb.1];by_cases c:b=s.heap.objs.size
   .subst c
    have q0:(s.heap.push { cls := .type "tuple",data := .seq #[u,v] }).get? s.heap.objs.size=some { cls := .type "tuple",data := .seq #[u,v] }:=ydt _ rfl;have q1:(s.heap.push { cls := .type "tuple",data := .seq #[u,v] }).get? s.heap.objs.size=some o:=q;rw[q0] at q1;cases q1;exact a5
   .have q1:(s.heap.push { cls := .type "tuple",data := .seq #[u,v] }).get? b=some o:=q
    rw[yge _ _ _ c] at q1;exact hk b o hb.1 hb.2.2.1 hb.2.2.2.1 hb.2.2.2.2 q1) (λc hc=>⟨up c hc,(hf c hc).2⟩)
  refine⟨.ref s.heap.objs.size,_,I2,rfl,⟨_,rfl,fr,λxs' ys' x' y' hxa hyb hx' hy'=>?_⟩,⟨hz2,?_,⟨_,_,(hs2.2 TO D.TOz).trans a2⟩,a3.at λo q=>(hs2.2 i1 D.i1z).trans q,a4.at λo q=>(hs2.2 i2 D.i2z).trans q⟩,up⟩
  .rw[I.list_inj hxa hqa,hx] at hx'
   rw[I.list_inj hyb hqb,hy] at hy';cases hx';cases hy';rfl
  .exact(hs2.2 TI D.TIz).trans (hk TI _ D.TIz D.TITO D.TIi1 D.TIi2 h1)
 done:=by
  intro X hP hw hK hc i pins s σ H E I hf st hg;subst hP hw hK;obtain⟨xs,ys,hqa,hqb,hx⟩:=hg;obtain⟨itsa,rva,pa,hza⟩:=I.list hqa;obtain⟨itsb,rvb,pb,hzb⟩:=I.list hqb;obtain⟨hz,h1,⟨c1,d1,h2⟩,h3,h4⟩:=st;have la:=rva.length;have lb:=rvb.length;refine wpAny_pyNext_zip_end (I.ok.hd hc) D hz h1 h2 h3 h4 pa.isList pb.isList (by rcases hx with y | y;exact .inl (by simp;omega);exact .inr (by simp;omega)) λh' hk=>⟨rfl,I.turnedL (t':=s.toks) (ch:=[z,TI,TO,i1,i2]) (λb o hb e=>?_) hf⟩;simp only[ybf,ydz,or_false,not_or] at hb;exact hk b o hb.1 hb.2.2.1 hb.2.2.2.1 hb.2.2.2.2 e
 self:=λ_ _ _ _ _ st h=>wpAny_pyIter_zip st.1 h
def quA (K:PySem.W.Frag)(ta:TA):TI:=λσ H R=>ta σ H λvs H1=>∃a b xs ys,vs=[.ref a,.ref b]/\SqL K H1 a xs/\SqL K H1 b ys/\R (Itz K a b) H1
theorem qsN {a b:Expr}{elts:List Expr}{x1:Nat}{tp:Pos}{ta:TA}{p pos:Pos}(hK:X.K=K)(hg:Gl X "zip")(hm:X.mg "zip" = none)(ha:PA X [a,b] ta)(hs:starEach [a,b] X.env=(false,eval a X.env)::starEach [b] X.env:=by rfl)(hs2:(backTo pos (starEach [b] X.env)).any (·.1)=false:=by rfl):PI X (.Tuple elts x1 tp) (.Call (.Name "zip" p) [a,b] [] pos) (quA K ta):=by
 subst hK;intro pins s σ H R I h;refine Call_ (qdc I hg hm PyProof.Rows.boot_zip (PyProof.Rows.callWith_type1 (thn (ha pos pins s σ H _ I h) λus s1 ⟨vs,H1,I1,r1,q1⟩=>?_) hs hs2));obtain⟨l1,l2,xs,ys,rfl,hqa,hqb,q⟩:=q1;obtain⟨u,v,rfl,ru,rv⟩:=qod r1;cases ru;cases rv;obtain⟨itsa,rva,pa,hza⟩:=I1.list hqa;obtain⟨itsb,rvb,pb,hzb⟩:=I1.list hqb;have la:l1<s1.heap.objs.size:=by obtain⟨_,q,_⟩:=pa.isList;exact ydv q
 have lb:l2<s1.heap.objs.size:=by obtain⟨_,q,_⟩:=pb.isList;exact ydv q
 generalize en:s1.heap.objs.size=n at la lb;refine call_zip_2 pa.isList pb.isList λh' g1 g2 g3 g4 g5 g6 hk=>?_;rw[en] at g1 g2 g3 g4 g5⊢;have I2:Inv X pins σ H1 { s1 with heap:=h' }:=I1.kept (t':=s1.toks) hk;refine wpAny_pyIter_zip g1 ⟨n+4,[n+4,n+2,n+3,n,n+1],_,_,H1,rfl,I2,qnA l1 l2 (n+4) (n+2) (n+3) n (n+1) ?_,⟨g1,g2,⟨_,_,g3⟩,g4,g5⟩,λc hb=>?_,q⟩
 .have la':@LT.lt Nat _ l1 n:=la
  have lb':@LT.lt Nat _ l2 n:=lb;constructor<;>(intro z;exact absurd (show @Eq Nat _ _ from z) (by omega))
 .have:n<=c:=by
   simp only[ybf,ydz,or_false] at hb;rcases hb with rfl | rfl | rfl | rfl | rfl<;>omega
  exact I1.fpOk (by omega) (I1.hok.fresh (by omega))
end
section
variable {K:PySem.W.Frag}{g:TG}{tb:TS}{D:qfX}{σ:L2.St}{H:Hp}{a b:Addr}{ta:TA}
theorem qs1:qnh (quA K ta) g tb D σ H↔ta σ H λvs H1=>∃a b xs ys,vs=[.ref a,.ref b]/\SqL K H1 a xs/\SqL K H1 b ys/\qcT (Itz K a b) g tb D σ H1:=Iff.rfl
theorem qtc {xs ys:List V}(hl:ys.length=xs.length)(Pv:Nat->L2.St->Hp->Prop)(h0:Pv 0 σ H)(hq:∀i σ H,i<=xs.length->Pv i σ H->SqL K H a xs/\SqL K H b ys)
 (hs:∀i x y σ H t,xs[i]?=some x->ys[i]?=some y->Pv i σ H->H t=none->∀N:L2.St->Hp->Prop,(∀σ' H',Pv (i+1) σ' H'->N σ' H')->g (.ref t) σ (upd H t (.tup [x,y])) λσ2 H2=>tb { D with nx:=N,ct:=N,bk:=D.nx } σ2 H2)(hd:∀σ H,Pv xs.length σ H->D.nx σ H):qcT (Itz K a b) g tb D σ H:=by
 refine⟨λi m σ H=>m=xs.length-i/\i<=xs.length/\Pv i σ H,⟨_,rfl,ybz _,h0⟩,?_⟩;rintro i m σ H ⟨rfl,hi,p⟩;obtain⟨hqa,hqb⟩:=hq i σ H hi p;by_cases hlt:i<xs.length
 .have hx:xs[i]?=some xs[i]:=yck hlt
  have hy:ys[i]?=some (ys[i]'(by omega)):=yck _;refine .inr ⟨⟨xs,ys,_,_,hqa,hqb,hx,hy⟩,Pv (i+1),λσ' H' q=>⟨xs.length-(i+1),by omega,rfl,hlt,q⟩,λx H' y=>?_⟩;obtain⟨t,rfl,ht,y⟩:=y;rw[y _ _ _ _ hqa hqb hx hy];exact hs i _ _ σ H t hx hy p ht _ λ_ _ q=>q
 .obtain rfl:i=xs.length:=by omega
  exact .inl ⟨⟨xs,ys,hqa,hqb,.inl (yaz _)⟩,hd σ H p⟩
theorem qrG {tl:TE}:qnh (qt7 K tl) g tb D σ H↔tl σ H λx H1=>∃a,x = .ref a/\(∃xs,SqT K H1 a xs)/\qcT (Itt K a) g tb D σ H1:=Iff.rfl
end
end L2
namespace L2
open PySem PySem.Spec PyProof.Rows
theorem qpp {n:Nat}:¬(n+1+1<n):=by omega
theorem qpy {n:Nat}:n<=n+1+1:=by omega
theorem qpd {n b:Nat}(h:b<n):n+1+1≠b:=by omega
def qgW (X:Cx)(N:List Str)(scope:Scope)(cx:Str)(cl:List (Str×Addr))(C:Addr)(s:Shared)(H:Hp)(fp:List Addr):Cx :=
 { X with N:=N,s₀:=s,H₀:=H,env:=compEnvC scope ((cx,C+1)::cl) C X.env,outer:=X.stack,ex:=fp,fn:=λy=>y==cx,pn:=[],xe:=λ_ _=>False }
structure qiQ (X:Cx)(N:List Str)(nt:Nat)(caps:List Nat)(cx:Str)(scope:Scope):Prop where
 one:∀n acc,cellsFrom n scope.names acc=(cx,n)::acc
 push:∀h:Heap,pushCells h scope.names=h.push { cls := .type "cell",data := .cell none }
 cell:∀y∈scope.names,y.2 = .cell->y.1=cx
 notf:(cx,NameKind.free)∉scope.names
 kind:scope.kind = .function
 names:∀x∈scope.names,x.2 = .local->scope.names.lookup x.1=some .local
 free:∀n,(n,NameKind.free)∈scope.names->X.env.kindOf n=some .cell\/X.env.kindOf n=some .free
 cap:∀(j i:Nat),caps[j]?=some i->∃x,X.N[i]?=some x/\N[nt+j]?=some x/\(x,NameKind.free)∈scope.names/\scope.names.lookup x=some .free
 len:N.length=nt+caps.length
def qjq (sc:Scope)(NX N:List Str)(nt:Nat)(caps:List Nat)(cx:Str)(scope:Scope):Bool :=
 scope.names.all (λy=>!(y.2 == .cell)||y.1==cx)&&scope.names.all (λy=>!(y.2 == .free)||!(y.1==cx))&&scope.kind == .function&&scope.names.all (λy=>!(y.2 == .local)||scope.names.lookup y.1==some .local)
 && scope.names.all (λy=>!(y.2 == .free)||sc.names.lookup y.1==some .cell||sc.names.lookup y.1==some .free)
 && (List.range caps.length).all (λj=>match NX[caps.getD j 0]? with
  | some x=>N[nt+j]?==some x&&scope.names.any (λy=>y.1==x&&y.2 == .free)&&scope.names.lookup x==some .free
  | none=>false)
 && N.length==nt+caps.length
theorem qog {X:Cx}{N:List Str}{nt:Nat}{caps:List Nat}{cx:Str}{scope:Scope}(one:∀n acc,cellsFrom n scope.names acc=(cx,n)::acc)(push:∀h:Heap,pushCells h scope.names=h.push { cls := .type "cell",data := .cell none })
 (h:qjq X.env.scope X.N N nt caps cx scope=true:=by rfl):qiQ X N nt caps cx scope:=by
 unfold qjq at h;simp only[yab,ybh,ycz,yay,beq_iff_eq,beq_eq_false_iff_ne,ne_eq] at h;obtain⟨⟨⟨⟨⟨⟨h1,h0⟩,h2⟩,h3⟩,h4⟩,h5⟩,h6⟩:=h;refine⟨one,push,λy hy e=>(h1 y hy).resolve_left λz=>z e,λhn=>?_,h2,λy hy e=>(h3 y hy).resolve_left λz=>z e,λn hn=>?_,λj i e=>?_,h6⟩
 .rcases h0 _ hn with z | z
  .exact z rfl
  .exact z rfl
 .rcases h4 (n,.free) hn with(z | z) | z
  .exact absurd rfl z
  .exact .inl z
  .exact .inr z
 .obtain⟨hj,e'⟩:=ycm.mp e
  have q:=h5 j (ybj.mpr hj);have eg:caps.getD j 0=i:=by rw[ycj,e];rfl
  rw[eg] at q;cases hx:X.N[i]? with
  | none=>rw[hx] at q;cases q
  | some x =>
   rw[hx] at q;simp only[yab,beq_iff_eq,ybl] at q;obtain⟨⟨q1,y,hy,e1,e2⟩,q3⟩:=q;refine⟨x,rfl,q1,?_,q3⟩;obtain⟨n,k⟩:=y;cases e1;cases e2;exact hy
theorem qdO {scope:Scope}{env:Env}{x cx:Str}(hc:∀y∈scope.names,y.2 = .cell->y.1=cx){k:NameKind}(h:(relabel scope env).names.lookup x=some k)(hk:k = .cell\/k = .free):(x,NameKind.free)∈scope.names\/x=cx:=by
 unfold relabel at h;dsimp only at h;rw[qbX _ (λp=>by obtain⟨n,k⟩:=p;dsimp only;split<;>rfl)] at h;cases hl:scope.names.lookup x with
 | none=>rw[hl] at h;cases h
 | some q =>
  rw[hl] at h;have m:=qex hl;by_cases hq:q = .free
  .rw[<-hq];exact .inl m
  .have hb:(q==NameKind.free)=false:=by simpa using hq
   simp only[yfr,hb,yeu,yem,if_false,Option.some.injEq] at h;rcases hk with z | z
   .exact .inr (hc _ m (h.trans z))
   .exact absurd (h.trans z) hq
theorem qks {M:Model}{A:Around}{E:Value->Shared->Prop}{s:Shared}{scope:Scope}{globals:Addr}{cl:List (Str×Addr)}{qual cx:Str}{outer:Env}{b:Addr}{Q:Env->Shared->Prop}
 (one:∀n acc,cellsFrom n scope.names acc=(cx,n)::acc)(push:∀h:Heap,pushCells h scope.names=h.push { cls := .type "cell",data := .cell none })
 (h:Q (newEnv scope s.heap.objs.size globals ((cx,s.heap.objs.size+1)::cl) qual none .none (some outer) b) { s with heap:=(s.heap.push { cls := .type "dict",data := .dict #[] }).push { cls := .type "cell",data := .cell none } }) :
 wpAny M A (newFunctionEnv scope globals cl [] qual none .none (some outer) b) Q E s:=by
 simp only[newFunctionEnv,yfq,if_true];refine wpAny_bind (wpAny_alloc ?_);refine wpAny_bind (wpAny_layCells _ (λname kind cells=>by cases hkc:kind==NameKind.cell<;>simp[hkc]) _ _ _ _ ?_);rw[one,push,ydw];exact wpAny_bind (wpAny_pure (wpAny_pure h))
section
variable {X:Cx}{tg iter elt:Expr}{ifs:List Expr}{scope:Scope}{pos:Pos}{N:List Str}{nt:Nat}{caps:List Nat}{wi:TI}{g:TG}{tt:TT}{te:TE}{cl:List (Str×Addr)}{cx:Str}
theorem qls {pins:List (Addr×Obj)}{σ:St}{H:Hp}{s:Shared}{it:Addr}{fp:List Addr}{tn:Nat->Heap->Prop}{J:It}{RR:Value->Addr->Result->Shared->Prop}{E:Value->Shared->Prop}
 (ok:qiQ X N nt caps cx scope)(hc:X.calm=true)(h1:∀n c,cl.lookup n=some c->X.env.cells.lookup n=some c)(h2:∀n,(n,NameKind.free)∈scope.names->∃c,cl.lookup n=some c)
 (hg:∀cl C s H fp,PG (qgW X N scope cx cl C s H fp) tg g)(hgk:qiw nt g)(ht:∀cl C s H fp,PTs (qgW X N scope cx cl C s H fp) ifs tt)(he:∀cl C s H fp,PE (qgW X N scope cx cl C s H fp) elt te)
 (I:Inv X pins σ H s)(T:qlr X.prog X.w X.K tg J fp it tn)(st:tn 0 s.heap)(hf:∀b∈fp,qhL X pins H b)
 (W:Nat->Nat->List V->Hp->Prop)(Z:List V->Hp->Prop)(m0:Nat)(w0:W 0 m0 [] H)
 (turn:∀i m ys H2,W i m ys H2->(J.stop i H2/\Z ys H2) \/
  (J.go i H2/\ys.length<sizeLine/\∀x H3,J.yld i H2 x H3->g x (qa2 nt caps σ) H3 λσ4 H4=>tt σ4 H4 λb H5 =>
   if b=true then te σ4 H5 λy H6=>∃m',m'<m/\W (i+1) m' (ys++[y]) H6 else ∃m',m'<m/\W (i+1) m' ys H5))
 (hRR:∀(C:Addr) (s':Shared) (ys:List V) (its:List Value) (n:Nat) (H':Hp),s.heap.objs.size<C->qaN ys its->Inv (qgW X N scope cx cl C s H fp) [] (qa2 nt caps σ) H' s' ->
  s'.heap.get? s.heap.objs.size=some { cls := .type "list",data := .seq its.toArray n }->H' s.heap.objs.size=none->Z ys H'->RR (.ref s.heap.objs.size) C (.ok .next) s') :
 wpAny (model X.prog X.w) X.A (newList []) (λacc s₃=>wpAny (model X.prog X.w) X.A (newFunctionEnv scope X.env.globals cl [] X.env.qual none .none (some X.env)) (λcenv s₄ =>
  codeAny (model X.prog X.w) X.A (.compStart (.ListComp elt [⟨tg,iter,ifs,0⟩] scope pos) 0 (.ref it) acc { cenv with scope:=relabel scope X.env }) (RR acc cenv.locals) s₄) E s₃) E s:=by
 refine wpAny_newObj_type (qks ok.one ok.push ?_);dsimp only;generalize hG:s.heap.push { cls := .type "list",dict:=none,data := .seq ([]:List Value).toArray }=G;generalize hh₁:(G.push { cls := .type "dict",data := .dict #[] }).push { cls := .type "cell",data := .cell none }=h₁;have keep₁:∀b o,G.get? b=some o->h₁.get? b=some o:=λb o e=>hh₁▸ydu _ (ydu _ e);have hns₁:h₁.Ns G.objs.size (λ_=>none):=hh₁▸(Heap.Ns.new G (.type "dict")).keeps λb o e=>ydu _ e
 have hcell₁:h₁.IsCell (G.objs.size+1) none:=by
  refine⟨{ cls := .type "cell",data := .cell none },?_,rfl⟩;have:=ydt (G.push { cls := .type "dict",data := .dict #[] }) (o:={ cls := .type "cell",data := .cell none }) rfl;rw[ydw,hh₁] at this;exact this
 have hC:G.objs.size=s.heap.objs.size+1:=by rw[<-hG,ydw]
 have hDC:s.heap.objs.size≠G.objs.size:=by rw[hC];exact ydx (ycy _)
 have hlt:s.heap.objs.size<G.objs.size:=by rw[hC];exact ycy _
 have old:∀b o,s.heap.get? b=some o->h₁.get? b=some o:=λb o e =>
  keep₁ b o (hG▸ydu _ e)
 have hacc:h₁.get? s.heap.objs.size=some { cls := .type "list",data := .seq ([]:List Value).toArray 0 }:=keep₁ _ _ (hG▸ydt _ rfl)
 have fpD:∀b∈fp,b<s.heap.objs.size:=λb hb=>by
  obtain⟨o,e,_⟩:=T.obj _ _ st b hb;exact ydv e
 have celt:∀n c,cl.lookup n=some c->c<s.heap.objs.size:=λn c e=>by
  obtain⟨v,q⟩:=I.cell n c (h1 n c e);exact q.lt
 have lkx:((cx,G.objs.size+1)::cl).lookup cx=some (G.objs.size+1):=by simp[yfu]
 have lkn:∀y,y≠cx->((cx,G.objs.size+1)::cl).lookup y=cl.lookup y:=λy hy=>by
  rw[yfu];have:(y==cx)=false:=by simpa using hy
  rw[this]
 have look2:∀y c,((cx,G.objs.size+1)::cl).lookup y=some c->(y=cx/\c=G.objs.size+1)\/(y≠cx/\cl.lookup y=some c):=λy c e=>by
  by_cases hy:y=cx
  .subst hy
   rw[lkx] at e;cases e;exact .inl ⟨rfl,rfl⟩
  .rw[lkn y hy] at e
   exact .inr ⟨hy,e⟩
 have has2:∀y,(y,NameKind.free)∈scope.names\/y=cx->∃c,((cx,G.objs.size+1)::cl).lookup y=some c:=λy hy=>by
  by_cases h:y=cx
  .exact⟨_,by rw[h];exact lkx⟩
  .obtain⟨c,e⟩:=h2 y (hy.resolve_right h)
   exact⟨c,by rw[lkn y h];exact e⟩
 have YOk:(qgW X N scope cx cl G.objs.size s H fp).Ok:=by
  refine⟨I.ok.mod,ok.kind,I.ok.glob,I.ok.blt,ydc hlt,λx y c e e'=>?_,λx hx=>?_,λx c hx e=>?_,I.ok.hd,I.ok.frames,.inl rfl,
   λb hb=>⟨ydx (ybp (fpD b hb) hlt),λx c e z=>?_⟩,λb o e=>I.bs b o e,ybn I.ok.bsz I.sz,λb o e hb=>?_,λb hb hz=>?_,I.stack,I.stkFree⟩
  .rcases look2 x c e with⟨z1,z2⟩ | ⟨z1,z2⟩<;>rcases look2 y c e' with⟨z3,z4⟩ | ⟨z3,z4⟩
   .rw[z1,z3]
   .have:=celt y c z4
    exact absurd this (by rw[z2,hC];exact qpp)
   .have:=celt x c z2
    exact absurd this (by rw[z4,hC];exact qpp)
   .exact I.ok.inj x y c (h1 x c z2) (h1 y c z4)
  .rcases hx with hx | hx
   .exact has2 x (qdO ok.cell hx (.inl rfl))
   .exact has2 x (qdO ok.cell hx (.inr rfl))
  .rcases look2 x c e with⟨z1,z2⟩ | ⟨z1,z2⟩
   .rw[z2,hC]
    exact qpy
   .exact absurd (beq_iff_eq.mp hx) z1
  .rcases look2 x c e with⟨z1,z2⟩ | ⟨z1,z2⟩
   .have:=fpD b hb
    rw[z2,hC] at z;exact qpd this z
   .exact(hf b hb).2.2.2.2.1 x c (h1 x c z2) z
  .rcases(hf b hb).2.2.2.1 with z | z
   .exact I.ok.noex b o e z
   .exact absurd (yae (ydv e) (ybn I.ok.bsz z)) (yen _)
  .rcases ybf.mp (I.stkSub b hz) with z | z
   .exact(hf b hb).2.1 z
   .exact(hf b hb).2.2.1 z
 have lenb:(qa2 nt caps σ).length=N.length:=by rw[ok.len];simp[qa2]
 have IY:Inv (qgW X N scope cx cl G.objs.size s H fp) [] (qa2 nt caps σ) H { s with heap:=h₁,toks:=s.toks }:=by
  refine⟨YOk,rfl,I.bare,Un.kept old,⟨_,hns₁,λi x v e1 e2 e3=>?_⟩,λx c e=>?_,I.hok.fresh (ydc hlt),λx c e=>?_,λp hp=>(nomatch hp),I.hok.kept old,lenb⟩
  .have hi:nt<=i:=by
    rcases yag i nt with z | z
    .exfalso
     unfold qa2 at e2;rw[yfe (by simpa using z),yfd] at e2;split at e2<;>cases e2
    .exact z
   unfold qa2 at e2;rw[yfc (by simpa using hi),yff,ycp] at e2;cases ej:caps[i-nt]? with
   | none=>rw[ej] at e2;cases e2
   | some j =>
    rw[ej] at e2;have e2':(σ[j]?).join=some v:=by simpa using e2
    have e2'':σ[j]?=some (some v):=by
     cases q:σ[j]? with
     | none=>rw[q] at e2';cases e2'
     | some z=>rw[q] at e2';simp at e2';rw[e2']
    obtain⟨y,y1,y2,y3,y4⟩:=ok.cap _ _ ej;have:nt+(i-nt)=i:=by omega
    rw[this] at y2;have e1':N[i]?=some x:=e1;rw[e1'] at y2;cases y2;obtain⟨m,hn,hl⟩:=I.loc;have kx:=ok.free x y3
    have vx:Vis X.env.scope x:=by
     rcases kx with z | z
     .exact .inr (.inl z)
     .exact .inr (.inr z)
    obtain⟨u,r,l⟩:=hl j x v y1 e2'' vx;refine⟨u,r,.inr ⟨?_,?_⟩⟩
    .rcases e3 with z | z | z
     .exact absurd z (qeO y4)
     .exact .inl z
     .exact .inr z
    .obtain⟨c,hcl⟩:=h2 x y3
     refine⟨c,(lkn x λz=>ok.notf (z▸y3)).trans hcl,?_⟩;rcases l with⟨k,_⟩ | ⟨_,c',hc',o,ho,hd⟩
     .rcases kx with z | z<;>(rw[z] at k;cases k)
     .have:c=c':=Option.some.inj ((h1 x c hcl).symm.trans hc')
      subst this;exact⟨o,old c o ho,hd⟩
  .rcases look2 x c e with⟨z1,z2⟩ | ⟨z1,z2⟩
   .rw[z2]
    exact⟨none,hcell₁⟩
   .obtain⟨v,o,ho,hd⟩:=I.cell x c (h1 x c z2)
    exact⟨v,o,old c o ho,hd⟩
  .rcases look2 x c e with⟨z1,z2⟩ | ⟨z1,z2⟩
   .exact I.hok.fresh (by rw[z2,hC];exact qpy)
   .exact I.freeC x c (h1 x c z2)
 -- the loop
 have stat:∀{pn:List (Addr×Obj)}{H':Hp},(∀b∈fp,H' b=none)->(∀p∈pn,s.heap.objs.size<=p.1)->∀b∈fp,qhL (qgW X N scope cx cl G.objs.size s H fp) pn H' b:=λ{pn H'} hn hpn b hb =>
  ⟨hn b hb,ydx (ybp (fpD b hb) hlt),λhz=>(YOk.exfs b hb hz).elim,.inl hb,(λx c e z=>by
   rcases look2 x c e with⟨z1,z2⟩ | ⟨z1,z2⟩
   .have:=fpD b hb
    rw[z2,hC] at z;exact qpd this z
   .exact(hf b hb).2.2.2.2.1 x c (h1 x c z2) z),λp hp z=>by
   have hp':p∈pn:=by simpa[qgW] using hp
   have:=hpn p hp';rw[z] at this;exact absurd (yae (fpD b hb) this) (yen _)⟩
 have hDf:s.heap.objs.size∉fp:=λhm=>yen _ (fpD _ hm)
 have hDs:s.heap.objs.size∉frs X.stack:=λhm=>by
  rcases ybf.mp (I.stkSub _ hm) with z | z
  .exact absurd I.lt (by rw[<-z];exact yen _)
  .exact I.nofs (yaz _) z
 have loop:∀s₃:Shared,s₃={ s with heap:=h₁,toks:=s.toks } ->
  codeAny (model X.prog X.w) X.A (.compLoop (.ListComp elt [⟨tg,iter,ifs,0⟩] scope pos) 0 (.ref it) (.ref s.heap.objs.size) (compEnvC scope ((cx,G.objs.size+1)::cl) G.objs.size X.env)) (RR (.ref s.heap.objs.size) G.objs.size) s₃:=by
  rintro s₃ rfl
  refine qeD (λn s'=>∃i ys its k H',Inv (qgW X N scope cx cl G.objs.size s H fp) [] (qa2 nt caps σ) H' s'/\tn i s'.heap/\(∀b∈fp,H' b=none)/\qaN ys its /\
   s'.heap.get? s.heap.objs.size=some { cls := .type "list",data := .seq its.toArray k }/\H' s.heap.objs.size=none/\ys.length<=sizeLine/\W i n ys H') ?_ m0
   ⟨0,[],[],0,H,IY,T.keep _ _ _ st λb hb o e=>old b o e,λb hb=>(hf b hb).1,.nil,hacc,I.hok.fresh (yaz _),ybz _,w0⟩
  rintro n s3 ⟨i,ys,its,k,H3,I3,st3,fr3,v3,a3,n3,z3,w3⟩
  have I3p:Inv (qgW X N scope cx cl G.objs.size s H fp) [(s.heap.objs.size,{ cls := .type "list",data := .seq its.toArray k })] (qa2 nt caps σ) H3 s3:=I3.pins_of λp hp=>by
   have e:p=(s.heap.objs.size,{ cls := .type "list",data := .seq its.toArray k }):=by simpa using hp
   subst e;exact⟨a3,n3,hDC,hDs,λv z=>by cases z⟩
  have pn3:∀p∈[(s.heap.objs.size,({ cls := .type "list",data := .seq its.toArray k }:Obj))],s.heap.objs.size<=p.1:=λp hp=>by
   have e:p=(s.heap.objs.size,{ cls := .type "list",data := .seq its.toArray k }):=by simpa using hp
   subst e;exact yaz _
  rcases turn i n ys H3 w3 with⟨stop,zz⟩ | ⟨go,hlen,step⟩
  .refine thn (T.done (qgW X N scope cx cl G.objs.size s H fp) rfl rfl rfl hc i _ s3 _ H3 _ I3p (stat fr3 pn3) st3 stop) λr s4 ⟨hr,I4⟩=>?_
   subst hr;have a4:=I4.pin (s.heap.objs.size,{ cls := .type "list",data := .seq its.toArray k }) (yev _ (by simp));exact hRR _ s4 ys its k H3 hlt v3 (I4.pins_of λ_ hp=>nomatch hp) a4.1 n3 zz
  .refine thn (T.item (qgW X N scope cx cl G.objs.size s H fp) rfl rfl rfl hc i _ s3 _ H3 _ I3p (stat fr3 pn3) st3 go) λr s4 ⟨u,hr,h4⟩=>?_
   subst hr;refine thn h4 λ_ s5 ⟨x,H5,I5,r5,y5,st5,fr5⟩=>?_;have I5':=I5.pinned (stat fr5 pn3) (T.obj _ _ st5);refine thn (hg _ _ _ _ _ _ s5 _ H5 x u _ I5' r5 (hgk _ _ _ _ (step x H5 y5))) λ_ s6 ⟨σ6,H6,I6,kp6,q6⟩=>?_;refine thn (ht _ _ _ _ _ _ s6 σ6 H6 _ I6 q6) λb s7 ⟨H7,I7,q7⟩=>?_
   have back:∀{H8:Hp}{s8:Shared},Inv (qgW X N scope cx cl G.objs.size s H fp) ([(s.heap.objs.size,({ cls := .type "list",data := .seq its.toArray k }:Obj))]++qgn fp s5.heap) σ6 H8 s8 ->
    Inv (qgW X N scope cx cl G.objs.size s H fp) [] (qa2 nt caps σ) H8 s8/\tn (i+1) s8.heap/\(∀b∈fp,H8 b=none)/\s8.heap.get? s.heap.objs.size=some { cls := .type "list",data := .seq its.toArray k }/\H8 s.heap.objs.size=none:=λ{H8 s8} I8=>by
    have a8:=I8.pin (s.heap.objs.size,{ cls := .type "list",data := .seq its.toArray k }) (yev _ (yau _ (by simp)));refine⟨(I8.pins_of (pins':=[]) λ_ hp=>absurd hp (by simp)).weak (by rw[lenb,I8.len];rfl) kp6,T.keep _ _ _ st5 λb hb o e=>(I8.pin (b,o) (yev _ (yev _ (qbH hb e)))).1,λb hb=>?_,a8.1,a8.2.1⟩;obtain⟨o,e,d⟩:=T.obj _ _ st5 b hb;exact(I8.pin (b,o) (yev _ (yev _ (qbH hb e)))).2.1
   cases b with
   | false =>
    rw[if_neg (by intro z;cases z)] at q7⊢;obtain⟨m',hm,w7⟩:=q7;obtain⟨b1,b2,b3,b4,b5⟩:=back I7;exact⟨m',hm,i+1,ys,its,k,H7,b1,b2,b3,v3,b4,b5,z3,w7⟩
   | true =>
    rw[if_pos rfl] at q7⊢;refine thn (he _ _ _ _ _ _ s7 σ6 H7 _ I7 q7) λu8 s8 ⟨y,H8,I8,r8,m',hm,w8⟩=>?_;obtain⟨b1,b2,b3,b4,b5⟩:=back I8;have hl:=v3.length;refine call_meets F.slot_list_append ⟨_,b4,rfl⟩ F.entry_list_append (F.args_list_append_2 _ _) (PySem.list_append s.heap.objs.size its.toArray k u8 (by rw[yfh];omega)) ⟨b4,?_⟩;have q:=PySem.IsL.update (show PySem.IsL s8.heap s.heap.objs.size its.toArray k from b4) (λx=>x.push u8);have eq:its.toArray.push u8=(its++[u8]).toArray:=by simp
    rw[eq] at q
    have keep:∀b' o,b'≠s.heap.objs.size->s8.heap.get? b'=some o->(s8.heap.update s.heap.objs.size (Obj.mapSeq λx=>x.push u8)).get? b'=some o:=λb' o hb hu =>
     (yeg s8.heap (Obj.mapSeq λx=>x.push u8) (Ne.symm hb)).trans hu
    refine⟨m',hm,i+1,ys++[y],its++[u8],_,H8,b1.turned (t':=s8.toks) keep b5 hDC (.inr (yaz _)) (λx c e z=>?_) (λp hp=>by simp[qgW] at hp),T.keep _ _ _ b2 λb hb o e=>keep b o (λz=>hDf (z▸hb)) e,b3,
     v3.append (.cons r8 .nil),q,b5,?_,w8⟩
    .rcases look2 x c e with⟨z1,z2⟩ | ⟨z1,z2⟩
     .rw[z2,hC] at z
      exact absurd z (yea (ybp (ycy _) (ycy _)))
     .exact absurd (celt x c z2) (by rw[z];exact yen _)
    .rw[ydq,yfn];omega
 exact codeAny_compStart_list (loop _ rfl) (T.self _ 0 _ _ _ (T.keep _ _ _ st λb hb o e=>old b o e) (loop _ rfl))
theorem qky {pins:List (Addr×Obj)}{σ:St}{H H':Hp}{s s':Shared}{fp:List Addr}{C:Addr}{ys:List V}{its:List Value}{n:Nat}{σb:St}{h':Heap}
 (I:Inv X pins σ H s)(hf:∀b∈fp,qhL X pins H b)(hC:s.heap.objs.size<C)(v:qaN ys its)(hz:ys.length<=sizeLine)(IY:Inv (qgW X N scope cx cl C s H fp) [] σb H' s')
 (e:s'.heap.get? s.heap.objs.size=some { cls := .type "list",data := .seq its.toArray n })(en:H' s.heap.objs.size=none)(hs:∀b o,b≠C->s'.heap.get? b=some o->h'.get? b=some o) :
 Inv X pins σ (upd H' s.heap.objs.size (.lst ys)) { s' with heap:=h' }:=by
 have hCn:H' C=none:=IY.free
 have hok:HOk X.prog X.w H' h':=λb u q=>by
  have nC:∀c u',H' c=some u'->c≠C:=λc u' q' z=>by rw[z,hCn] at q';cases q'
  refine(IY.hok b u q).stay (λc w' hc q'=>hs c w' ?_ q') (λ_ q'=>q') λ_ _ q'=>q';rcases hc with z | z
  .rw[z];exact nC b u q
  .exact nC c _ z
 have lt:∀b o,s.heap.get? b=some o->b≠C:=λb o q=>ydx (ybp (ydv q) hC)
 have u:Un (frs X.stack) fp H H' s.heap h':=⟨λb o q nn hb hx=>hs b o (lt b o q) (IY.base.keep b o q nn hb hx),λb o q nn hb hx=>by
  obtain⟨sl,q'⟩:=IY.base.slot b o q nn hb hx;exact⟨sl,hs b _ (lt b o q) q'⟩,IY.base.free,λb o q hx=>by
  obtain⟨o',q'⟩:=IY.base.there b o q hx;exact⟨o',hs b o' (lt b o q) q'⟩,IY.base.tups,IY.base.frzs,IY.base.tbls⟩
 have I1:Inv X pins σ H' { s' with heap:=h' }:=I.call' (s':={ s' with heap:=h' }) (ch:=fp) IY.os u hok IY.bare λb hb=>⟨(hf b hb).2.2.2.1,(hf b hb).2.1,(hf b hb).2.2.2.2.1,(hf b hb).2.2.2.2.2⟩;have hD:h'.get? s.heap.objs.size=some { cls := .type "list",data := .seq its.toArray n }:=hs _ _ (ydx hC) e
 exact I1.track (by
  have f:=I.fpOk (H':=H') (b:=s.heap.objs.size) (yaz _) en;exact f) ⟨hz,its,n,v,hD⟩
theorem qot (ok:qiQ X N nt caps cx scope)(hc:X.calm=true)(hi:PI X tg iter wi)
 (hg:∀cl C s H fp,PG (qgW X N scope cx cl C s H fp) tg g)(hgk:qiw nt g)(ht:∀cl C s H fp,PTs (qgW X N scope cx cl C s H fp) ifs tt)(he:∀cl C s H fp,PE (qgW X N scope cx cl C s H fp) elt te)
 (hs:∀x,foldedSetIterable iter X.env x=pure x:=by intro _;rfl):PE X (.ListComp elt [⟨tg,iter,ifs,0⟩] scope pos) (qfY nt caps wi g tt te):=by
 intro pins s σ H Q I h;obtain⟨cl,hcl,h1,h2⟩:=qcM (scope:=scope) (env:=X.env) λn hn=>I.ok.has n (ok.free n hn);rw[eval_ListComp];refine wpAny_comprehension_free (use:=none) rfl hs hcl ok.kind ok.names (thn (hi pins s σ H _ I h) λxv s1 h1'=>thn h1' λitv s2 h2'=>?_);obtain⟨it,fp,tn,J,H2,e,I2,T,st2,f2,W,⟨m0,w0⟩,turn⟩:=h2';subst e;refine qls (RR:=λacc C=>compPost (model X.prog X.w) X.A X.xe none (EP X pins σ Q) acc C) ok hc h1 h2 hg hgk ht he I2 T st2 f2 W (λys H'=>ys.length<=sizeLine/\∀p,H' p=none->Q (.ref p) (upd H' p (.lst ys))) m0 w0 turn ?_;intro C s' ys its n H' hC v IY e en zz;obtain⟨m,hn,_⟩:=IY.loc;exact⟨m,hn,λh' hs'=>⟨.ref s2.heap.objs.size,_,qky I2 f2 hC v zz.1 IY e en (λb o hb q=>hs'.extBut b o hb q),rfl,zz.2 _ en⟩⟩
end
end L2
namespace L2
open PySem PySem.Spec PyProof.Rows
abbrev sV (ys:List Str):List V:=ys.map V.str
theorem qfb:∀{ys:List Str}{us:List Value},qaN (sV ys) us->StrsAre us ys
 | [],_,.nil => .nil
 | y::ys,_,.cons r t=>by
  obtain⟨k,rfl⟩:=(show ∃k,_=Value.str y k from r);exact .cons y k (qfb t)
theorem qfx:∀(l:List (Str×Tok)),qaN (sV (l.map (·.1))) (strValues l)
 | [] => .nil
 | (y,t)::l => .cons ⟨t,rfl⟩ (qfx l)
section
variable {X:Cx}
def qtT (K:PySem.W.Frag):V->List V->Hp->VK->Prop:=λx vs H Q=>∃(sep:Str) (l:Addr) (ys:List Str),x = .str sep/\vs=[.ref l]/\SqL K H l (sV ys)/\(ys.map (·.length)).sum+ys.length*sep.length<=16777216/\Q (.str (Txt.join sep ys)) H
theorem qbC {K:PySem.W.Frag}(hK:X.K=K):MtM X "str.join" (qtT K):=by
 subst hK;intro pins s σ H x vs v us Q I rx rv h;obtain⟨sep,l,ys,rfl,rfl,hq,hz,q⟩:=h;obtain⟨t,rfl⟩:=rx;obtain⟨u,rfl,ru⟩:=rv.one;cases(show u=Value.ref l from ru);obtain⟨its,r,p,_⟩:=I.list hq;exact join_list p.isList (by simpa using qfb r) hz λt' k=>⟨.str _,H,I.tok k,⟨_,rfl⟩,q⟩
def qrX:V->List V->Hp->VK->Prop:=λx vs H Q=>∃(z y:Str),x = .str z/\vs=[.str y]/\(y.length==0)=false/\z.length<=100000/\∀l,H l=none->Q (.ref l) (upd H l (.lst (sV (Txt.split z y))))
theorem qbE:MtM X "str.split" qrX:=by
 intro pins s σ H x vs v us Q I rx rv h;obtain⟨z,y,rfl,rfl,hy,hz,q⟩:=h;obtain⟨t,rfl⟩:=rx;obtain⟨u,rfl,ru⟩:=rv.one;obtain⟨t2,rfl⟩:=ru;have hl:=split_le z y;have e24:sizeLine=16777216:=sizeLine_eq
 have fin:∀(l:List (Str×Tok)) (k:Nat),l.map (·.1)=Txt.split z y->EP X pins σ Q (.ref s.heap.objs.size) { s with heap:=s.heap.push { cls := .type "list",data := .seq (strValues l).toArray },toks:=k }:=λl k e =>
  ⟨.ref s.heap.objs.size,_,I.lnew (ys:=sV (Txt.split z y)) (t':=k) (by rw[<-e];exact qfx l) (by rw[ycd];omega),rfl,q _ I.fresh⟩
 cases h1:(decide (z.length<y.length)||decide (Builtin.Str.strKind z<Builtin.Str.strKind y)) with
 | true=>exact call_meets F.slot_str_split (typeIs_str _ _ _) F.entry_str_split (F.args_str_split_2 _ _) (meets_str_split_cannot_occur z y t t2 h1) (fin [(z,t)] s.toks (if_pos h1).symm)
 | false =>
  cases h2:(Builtin.Str.occurrences z y 0 z.length (z.length+1)).isEmpty with
  | true=>exact call_meets F.slot_str_split (typeIs_str _ _ _) F.entry_str_split (F.args_str_split_2 _ _) (meets_str_split_not_found z y t t2 h1 hy h2) (fin [(z,t)] s.toks ((if_neg (ne_true_of_eq_false h1)).trans (if_pos h2)).symm)
  | false =>
   have es:Txt.split z y=Builtin.Str.partsBetween z (Builtin.Str.occurrences z y 0 z.length (z.length+1)) y.length:=(if_neg (ne_true_of_eq_false h1)).trans (if_neg (ne_true_of_eq_false h2));refine call_meets F.slot_str_split (typeIs_str _ _ _) F.entry_str_split (F.args_str_split_2 _ _) (meets_str_split_sep z y t t2 h1 hy h2 (by omega) (by rw[<-es];omega)) ?_;rw[strsFrom_eq];exact fin (numbered s.toks _) _ ((numbered_texts _ _).trans es.symm)
def qu3:V->Option Int->Option Int->Hp->VK->Prop:=λx lo hi H Q=>∃z:Str,x = .str z/\z.length<=100000/\Q (.str (Txt.slice z lo hi)) H
theorem qj1 {v:Value}{o:Option Int}(h:IsPart v o):∃p:Option (Int×Tok),v=partValue p/\p.map (·.1)=o:=by
 cases h with
 | none=>exact⟨none,rfl,rfl⟩
 | int=>exact⟨some (_,_),rfl,rfl⟩
theorem qpz:SlR X qu3:=by
 intro pins s σ H x v vl vu lo hi sl Q I rx hs pl pu h;obtain⟨z,rfl,hz,q⟩:=h;obtain⟨t,rfl⟩:=rx;obtain⟨a,rfl,rfl⟩:=qj1 pl;obtain⟨b,rfl,rfl⟩:=qj1 pu;have e24:sizeLine=16777216:=sizeLine_eq;refine⟨"str",_,F.slot_str_getitem.lookup,typeIs_str _ _ _,wpAny_getItem_str_slice (l:=a) (u:=b) (st:=none) hs rfl (post_val_or_str ⟨ybn (Txt.slice_le z _ _) (by omega),λt' k=>?_⟩)⟩;exact⟨.str _,H,I.tok k,⟨_,rfl⟩,q⟩
theorem qho:OpR X (compareOp .LtE) (λx y H Q=>∃i j,x = .str i/\y = .str j/\Q (.bl (!decide (j.cps.toList<i.cps.toList))) H):=by
 intro pins s σ H x y v u Q I rx ry h;obtain⟨i,j,rfl,rfl,q⟩:=h;obtain⟨t,rfl⟩:=rx;obtain⟨t',rfl⟩:=ry;exact P.le_str (qaL I q rfl)
def qqg:V->List V->Hp->VK->Prop:=λx vs H Q=>∃(l:Addr) (ys:List Str) (k:Str),x = .ref l/\vs=[.str k]/\H l=some (.lst (sV ys))/\k∈ys/\ys.length<=1000/\Q (.int (ys.idxOf k:Nat)) H
theorem qd9 (k:Str):∀{vs:List Value}{ys:List Str},StrsAre vs ys->∀(i:Nat) (h1:i<vs.length) (h2:i<ys.length),isStrOf k vs[i]=(ys[i]==k)
 | _,_,.nil,i,h1,_=>absurd h1 (ygn i)
 | _,_,.cons y t r,0,_,_=>rfl
 | _,_,.cons y t r,i+1,h1,h2=>qd9 k r i (yeb h1) (yeb h2)
theorem StrsAre.len:∀{vs:List Value}{ys:List Str},StrsAre vs ys->vs.length=ys.length
 | _,_,.nil=>rfl
 | _,_,.cons y t r=>congrArg (· + 1) (StrsAre.len r)
theorem qjo:∀{ys:List Str}{k:Str}{j:Nat},j<ys.idxOf k->∀h:j<ys.length,(ys[j]==k)=false
 | [],_,j,_,h=>absurd h (ygn j)
 | y::ys,k,j,w,h=>by
  rw[ygo] at w;cases c:y==k with
  | true=>rw[c] at w;exact absurd w (by simp)
  | false =>
   rw[c] at w;cases j with
   | zero=>exact c
   | succ j =>
    have w:j+1<ys.idxOf k+1:=w;exact qjo (ys:=ys) (by omega) (yeb h)
theorem qbi:MtM X "list.index" qqg:=by
 intro pins s σ H x vs v us Q I rx rv h;obtain⟨l,ys,k,rfl,rfl,hH,hk,hb,q⟩:=h;cases rx;obtain⟨u,rfl,ru⟩:=rv.one;obtain⟨t,rfl⟩:=ru;obtain⟨z,its,n,r,hl,e⟩:=I.lstM hH;have hi:=qfb r;have hlen:=StrsAre.len hi;have hj:ys.idxOf k<ys.length:=ycr.mpr hk;refine call_meets ygp ⟨_,e,rfl⟩ PySem.F.entry_list_index (PySem.F.args_list_index_2 _ _) (SeqAt.list_indexAt l its.toArray n none #[] (.str k t) (isStrOf k) (ys.idxOf k) (by rw[yfh];omega) (by omega) ?_ λj w1 w2=>?_) ⟨e,λy hy=>(eq_isStrOf k t hi y (by simpa using hy)).at _ _,?_⟩
 .exact(qd9 k hi _ (by omega) hj).trans (by simp)
 .refine(qd9 k hi j (by simpa using w1) (by omega)).trans ?_
  exact qjo w2 _
 .exact⟨.int _,H,I.tok _,⟨_,rfl⟩,q⟩
end
end L2
namespace L2
open PySem PySem.Spec PyProof.Rows
def Its (z:Str):It:=⟨λi _=>i<z.length,λi H x H'=>H'=H/\∃c,z.cps[i]?=some c/\x = .str ⟨#[c]⟩,λi _=>z.length<=i⟩
theorem qoq {P:Program}{w:World}{K:PySem.W.Frag}{tg:Expr}(z:Str)(t:Tok)(it:Addr):qlr P w K tg (Its z) [it] it (λi h=>h.IsStrIter it "str_ascii_iterator" z t i) where
 mem:=by simp
 obj:=λi h J b hb=>by
  obtain rfl:b=it:=by simpa using hb
  obtain⟨oi,e1,_,e3⟩:=J;exact⟨oi,e1,λv z=>by rw[e3] at z;cases z⟩
 keep:=λi h h' J k=>by
  obtain⟨oi,e1,r⟩:=J;exact⟨oi,k it (by simp) oi e1,r⟩
 item:=by
  intro X hP hw hK hc i pins s σ H E I hf J hg;subst hP hw hK;have hi:i<z.cps.size:=hg;have hx:z.cps[i]?=some z.cps[i]:=Array.getElem?_eq_getElem hi;obtain⟨f0,f1,f2,f3,f4,f5⟩:=hf it (by simp);refine wpAny_pyNext_ascii_item J hx λh' J' sb=>?_;have I1:Inv X pins σ H { s with heap:=h',toks:=s.toks+1 }:=I.turned (λb o hb e=>(sb.2 b hb).trans e) f0 f1 f3 f4 f5;obtain⟨oj,e1,e2,e3⟩:=id J';exact⟨_,rfl,ql7 (s:={ s with heap:=h',toks:=s.toks+1 }) e1 e2 e3 (by decide) ⟨.str ⟨#[z.cps[i]]⟩,H,I1,⟨_,rfl⟩,⟨rfl,_,hx,rfl⟩,J',λb hb=>(hf b hb).1⟩⟩
 done:=by
  intro X hP hw hK hc i pins s σ H E I hf J hg;subst hP hw hK;obtain⟨f0,f1,f2,f3,f4,f5⟩:=hf it (by simp);exact wpAny_pyNext_ascii_end (I.ok.hd hc) J (ydd hg) λh' eb=>⟨rfl,I.turned (t':=s.toks) (λb o hb e=>eb b o hb e) f0 f1 f3 f4 f5⟩
 self:=λ_ _ _ _ _ J q=>wpAny_pyIter_striter_ascii J q
def qt1 (tl:TE):TI:=λσ H R=>tl σ H λx H1=>∃z:Str,x = .str z/\z.cps.all (· < 128)=true/\R (Its z) H1
section
variable {X:Cx}{tg:Expr}
theorem qtn {l:Expr}{tl:TE}(hl:PE X l tl):PI X tg l (qt1 tl):=by
 intro pins s σ H R I h;refine thn (hl pins s σ H _ I h) λv s1 ⟨x,H1,I1,r1,z,ex,ha,q⟩=>?_;subst ex;obtain⟨t,rfl⟩:=r1;refine wpAny_pyIter_ascii ha ⟨s1.heap.objs.size,[s1.heap.objs.size],_,_,H1,rfl,I1.kept (t':=s1.toks) λb o e=>ydu _ e,qoq z t _,⟨_,ydt _ rfl,rfl,rfl⟩,λb hb=>?_,q⟩;obtain rfl:b=s1.heap.objs.size:=by simpa using hb
 exact I1.fpOk (yaz _) (I1.hok.fresh (yaz _))
end
section
variable {g:TG}{tb:TS}{D:qfX}{σ:St}{H:Hp}{z:Str}{nt:Nat}{caps:List Nat}{tt:TT}{te tl:TE}{Q:VK}
theorem qrJ:qnh (qt1 tl) g tb D σ H↔tl σ H λx H1=>∃z:Str,x = .str z/\z.cps.all (· < 128)=true/\qcT (Its z) g tb D σ H1:=Iff.rfl
theorem qrl:qfY nt caps (qt1 tl) g tt te σ H Q↔tl σ H λx H1=>∃z:Str,x = .str z/\z.cps.all (· < 128)=true/\qcH (Its z) nt caps g tt te σ H1 Q:=Iff.rfl
def sgs (z:Str):List Nat:=z.cps.toList
theorem qqc (z:Str):(sgs z).length=z.length:=by simp[sgs,Str.length]
theorem qsu {z:Str}{i:Nat}:(sgs z)[i]?=z.cps[i]?:=by simp[sgs]
theorem qei (c:Nat->Bool)(fs:List Nat)(i x:Nat)(hx:fs[i]?=some x):(fs.take (i+1)).filter c=(fs.take i).filter c++if c x=true then [x] else []:=by
 rw[ygq,hx,yaw];cases h:c x<;>simp[h]
theorem qrP (c:Nat->Bool)(f:Nat->V)(hz:z.length<=100000)
 (hs:∀x∈sgs z,∀H1,qar H H1->∀(R:VK) (R':Hp->Prop),(c x=true->∀H2,qar H1 H2->R (f x) H2)->(c x=false->∀H2,qar H1 H2->R' H2) ->
  g (.str ⟨#[x]⟩) (qa2 nt caps σ) H1 λσ4 H4=>tt σ4 H4 λb H5=>if b=true then te σ4 H5 R else R' H5)
 (hd:∀H1 p,qar H H1->H1 p=none->Q (.ref p) (upd H1 p (.lst (((sgs z).filter c).map f)))):qcH (Its z) nt caps g tt te σ H Q:=by
 have e24:sizeLine=16777216:=sizeLine_eq;refine⟨λi m ys H1=>m=z.length-i/\i<=z.length/\qar H H1/\ys=(((sgs z).take i).filter c).map f,⟨_,rfl,ybz _,qar.refl _,rfl⟩,?_⟩;rintro i m ys H2 ⟨rfl,hi,sm,rfl⟩
 have ln:((((sgs z).take i).filter c).map f).length<=i:=by
  rw[ycd];exact ybn (ybo _ _) (by rw[yfb];omega)
 rcases yag i z.length with k | k
 .refine .inr ⟨k,by omega,λx H3 y=>?_⟩
  obtain⟨rfl,cc,k1,rfl⟩:=y;have k2:(sgs z)[i]?=some cc:=qsu.trans k1;have ex:=qei c (sgs z) i cc k2;refine hs cc (ycl k2) _ sm _ _ (λhc H4 s4=>⟨z.length-(i+1),by omega,rfl,k,sm.trans s4,?_⟩) λhc H4 s4=>⟨z.length-(i+1),by omega,rfl,k,sm.trans s4,?_⟩
  .rw[ex,hc,if_pos rfl,ycv]
   rfl
  .rw[ex,hc,if_neg yet,yed]
 .obtain rfl:i=z.length:=by omega
  refine .inl ⟨yaz _,by omega,λp hp=>?_⟩;rw[show(sgs z).take z.length=sgs z from by rw[<-qqc];exact ydi];exact hd H2 p sm hp
end
section
variable {X:Cx}{K:PySem.W.Frag}
def quI (K:PySem.W.Frag):List V->Hp->VK->Prop:=λxs H Q=>∃(l:Addr) (bs:List Bool),xs=[.ref l]/\SqL K H l (bs.map V.bl)/\Q (.bl (bs.all id)) H
theorem qnF (hc:X.calm=true)(hK:X.K=K):qcl X (.builtin "all") (quI K):=by
 subst hK;intro pins s σ H xs us Q I r h;obtain⟨l,bs,rfl,hq,q⟩:=h;obtain⟨u,rfl,ru⟩:=qcz r;cases(show u=Value.ref l from ru);obtain⟨its,rv,p,hz⟩:=I.list hq;have hl:=rv.length;rw[ycd] at hl
 have hlt:l<s.heap.objs.size:=by
  obtain⟨o,e,_⟩:=p.isList;exact ydv e
 refine call_all_walk (wpAny_pyIter_list p.isList ?_);refine⟨s.heap.objs.size,_,_,_,_,_,λi=>bs.getD i true,rfl,Walks.list (A:=X.A.in1) (I.ok.hd hc) _ l (ydx hlt) its.toArray,⟨⟨_,ydt _ rfl,rfl,rfl⟩,?_⟩,λi v s2 Q2 E2 hv hQ=>?_,λh' tk hk=>?_⟩
 .obtain⟨o,e,rr⟩:=p.isList
  exact⟨o,ydu _ e,rr⟩
 .have hv:its[i]?=some v:=by simpa using hv
  have hi:i<bs.length:=by
   have:=(ycm.mp hv).1;omega
  obtain⟨u2,h2,r2⟩:=rv.get (i:=i) (x := .bl bs[i]) (by rw[ycp,yck hi];rfl);rw[hv] at h2;cases h2;cases(show v=Value.bool bs[i] from r2);have hQ:Q2 (bs.getD i true) s2:=hQ;rw[ycj,yck hi] at hQ;exact wpAny_pure hQ
 .have e:(List.range its.toArray.size).all (λi=>bs.getD i true)=bs.all id:=by
   rw[yfh,<-hl,yax,ybh,ybh];constructor
   .intro z b hb
    obtain⟨j,hj,rfl⟩:=ygg.mp hb;have:=z j (ybj.mpr hj);rw[ycj,yck hj] at this;exact this
   .intro z j hj
    have hj:=ybj.mp hj;rw[ycj,yck hj];exact z _ (ydp hj)
  rw[e];refine⟨.bl _,H,I.kept λb o z=>?_,rfl,q⟩;refine hk b o (λhm=>?_) (ydu _ z);have l1:=ydv z;have e1:b=s.heap.objs.size:=by simpa using hm
  rw[e1] at l1;exact absurd l1 (yen _)
end
end L2
namespace L2
open PySem PySem.Spec PyProof.Rows
def qcG (v:Nat->Str):Nat->List Str
 | 0=>[]
 | i+1=>if (qcG v i).any (·==v i) then qcG v i else qcG v i++[v i]
theorem qnQ (v:Nat->Str)(i:Nat)(k:Str):(qcG v (i+1)).any (·==k)=((qcG v i).any (·==k)||decide (k=v i)):=by
 show(if (qcG v i).any (·==v i) then qcG v i else qcG v i++[v i]).any (·==k)=_;by_cases c:(qcG v i).any (·==v i)=true
 .rw[if_pos c]
  by_cases e:k=v i
  .rw[e,c];rfl
  .rw[decide_eq_false e,yel]
 .rw[if_neg c,List.any_append]
  congr 1;simp only[yfk,List.any_nil,yel];rw[yax,beq_iff_eq,decide_eq_true_eq];exact eq_comm
theorem qhe (v:Nat->Str)(i:Nat):(qcG v (i+1)).length=if (qcG v i).any (·==v i) then (qcG v i).length else (qcG v i).length+1:=by
 show(if (qcG v i).any (·==v i) then qcG v i else qcG v i++[v i]).length=_;split
 .rfl
 .simp
theorem qlx (v:Nat->Str):∀i,(qcG v i).length<=i
 | 0=>yaz _
 | i+1=>by
  rw[qhe];have:=qlx v i;split<;>omega
section
variable {prog:Program}{w:World}{A:Around}{R:Result->Shared->Prop}{I:Addr}{fp wr:List Addr}{G:Array GenState->Array GenState->Prop}{n:Nat}{P:Nat->Value->Prop}{St:Nat->Shared->Prop}
theorem qnX (W:WalksS prog w A.in1 I fp wr G n P St)(a:Addr)(na:a∉fp)(val:Nat->Str)(hv:∀i v,P i v->∃t,v = .str (val i) t)(few:n+1<scanBound) :
 ∀(k i:Nat) (s:Shared),n-i=k->i<=n->St i s->s.heap.SetOf (PySem.strKind prog w) a (λx=>(qcG val i).any (·==x)) (qcG val i).length ->
  (∀s',Moved (a::wr) G s s'->s'.heap.SetOf (PySem.strKind prog w) a (λx=>(qcG val n).any (·==x)) (qcG val n).length->R (.ok (.ret .none)) s') ->
  codeAny (model prog w) A (.builtin "set.update.loop" ⟨[.ref a,.ref I],[]⟩) R s:=by
 have nw:a∉wr:=λz=>na (W.sub _ z);have qjB:∀b∈wr,b∈a::wr:=λb z=>ybg _ z
 have keepS:∀{j:Nat}{s s':Shared},Moved wr G s s'->s.heap.SetOf (PySem.strKind prog w) a (λx=>(qcG val j).any (·==x)) (qcG val j).length->s'.heap.SetOf (PySem.strKind prog w) a (λx=>(qcG val j).any (·==x)) (qcG val j).length:=λ{j s s'} mv z=>by
  obtain⟨o,es,ep,t,ho,rr⟩:=z;exact⟨o,es,ep,t,mv.heap a _ nw ho,rr⟩
 intro k
 induction k with
 | zero =>
  intro i s hk hi hst hS hR;obtain rfl:i=n:=by omega
  refine codeAny_builtin F.entry_set_update_loop ?_;rw[Around.under_plainId F.plain_set_update_loop _];refine(wpAny_bind (m:=pyNext (.ref I)) (W.done s _ _ hst λs' mv=>?_));exact wpAny_pure (hR s' (mv.mono qjB) (keepS mv hS))
 | succ k ih =>
  intro i s hk hi hst hS hR;have lt:i<n:=by omega
  refine codeAny_builtin F.entry_set_update_loop ?_;rw[Around.under_plainId F.plain_set_update_loop _];refine(wpAny_bind (m:=pyNext (.ref I)) (W.item i s _ _ lt hst λv s' pv st' mv=>?_));obtain⟨t,rfl⟩:=hv i v pv;have hS1:=keepS mv hS;refine wpAny_bind (m:=holding [Value.str (val i) t] (setAdd a (.str (val i) t))) (wpAny_holding ?_);unfold setAdd;refine(wpAny_holding ?_);have isv:(PySem.strKind prog w).is (val i) (.str (val i) t)=true:=strKind_is _ _ _ _;refine wpAny_bind ((PySem.strKind prog w).pyHash (k:=val i) isv ?_);refine wpAny_setAddHashed_of (knd:=PySem.strKind prog w) (s:={ s' with toks:=s'.toks+1 }) isv rfl hS1 (by have:=qlx val i;omega) λh' sb hS2=>?_;have hS3:h'.SetOf (PySem.strKind prog w) a (λx=>(qcG val (i+1)).any (·==x)) (qcG val (i+1)).length:=SetOf_congr hS2 (λx=>(qnQ val i x).symm) (qhe val i).symm;refine wpAny_pure ⟨plainId_quiet F.plain_set_update_loop _,ih (i+1) _ (by omega) lt (W.frame _ s' _ _ st' (ycx _) λb hb o e=>?_) hS3 λs2 mv2 hS4=>?_⟩
  .exact(sb.2 b (λz:b=a=>na (z▸hb))).trans e
  .refine hR s2 (Moved.trans W.gtrans ((mv.mono qjB).then_heap (ycx _) λb o hb e=>?_) mv2) hS4
   exact(sb.2 b (λz:b=a=>hb (by rw[z];exact ybd))).trans e
end
theorem qlp:∀{vs:List Value}{ys:List Str},StrsAre vs ys->∀(i:Nat) (v:Value),vs[i]?=some v->∃t,v = .str (ys.getD i Str.empty) t
 | _,_,.nil,i,v,h=>by simp at h
 | _,_,.cons y t r,0,v,h=>by cases h;exact⟨t,rfl⟩
 | _,_,.cons y t r,i+1,v,h=>qlp r i v (by simpa using h)
section
variable {prog:Program}{w:World}{A:Around}{E:Value->Shared->Prop}{s:Shared}
abbrev es0 (led:Bool):Obj:={ cls := .type "set",dict:=none,data := .set #[] 0 (.fresh 0 0 led) }
set_option maxHeartbeats 3200000 in
theorem qnU {l:Addr}{items:Array Value}{ys:List Str}{Q:Value->Shared->Prop} (hh:A.handled=none) (hl:s.heap.IsList l items) (hi:StrsAre items.toList ys) (few:items.size+1<scanBound)
 (k:∀(h':Heap) (tk:Nat),h'.SetOf (PySem.strKind prog w) s.heap.objs.size (λx=>(qcG (λi=>ys.getD i Str.empty) items.size).any (·==x)) (qcG (λi=>ys.getD i Str.empty) items.size).length ->
  (∀b o,b<s.heap.objs.size->s.heap.get? b=some o->h'.get? b=some o)->Q (.ref s.heap.objs.size) { s with heap:=h',toks:=tk }) :
 wpAny (model prog w) A (call (.type "set") [.ref l]) Q E s:=by
 obtain⟨c,tl,hmro⟩:=(F.called_set.mro);have k1:=F.called_set.made;have k2:=F.called_set.sub;refine(wpAny_call (codeAny_of_tree ?_));show wpAny _ _ (callAny (.type "set") _) _ _ s;refine(wpAny_pure ⟨Code.quiet_builtin _ (by decide +kernel),codeAny_builtin F.entry_type_call ?_⟩);rw[Around.under_plain (weight_type_call_type "set" [.ref l] []) rfl];have k3:=F.called_set.notType;have k4:=F.called_set.canCreate;have k5:=F.typeCall_set_1 (.ref l)
 repeat (any_goals (first | assumption | wp_step))
 refine codeAny_mono (code_set_new_1 (.ref l) (E:=E) (Q₁:=λob s1=>∃led:Bool,ob = .ref s.heap.objs.size/\s1={ s with heap:=s.heap.push (es0 led) }) λled=>⟨led,rfl,rfl⟩) λr s1 hr=>?_;cases r with
 | error e=>exact hr
 | ok fl =>
  cases fl with
  | ret ob =>
   obtain⟨led,rfl,rfl⟩:=hr;have at0:(s.heap.push (es0 led)).get? s.heap.objs.size=some (es0 led):=ydt _ rfl;have ty0:Shared.TypeIs { s with heap:=s.heap.push (es0 led) } (.ref s.heap.objs.size) "set" := ⟨_,at0,rfl⟩;have k6:=F.called_set.init.lookup;have k7:=F.called_set.init.bind (.ref s.heap.objs.size)
   repeat (any_goals (first | assumption | wp_step))
   refine codeAny_mono (codeAny_call_builtin (R:=wants (λr s2=>r = .none/\∃h' tk,s2={ s with heap:=h',toks:=tk } /\
    h'.SetOf (PySem.strKind prog w) s.heap.objs.size (λx=>(qcG (λi=>ys.getD i Str.empty) items.size).any (·==x)) (qcG (λi=>ys.getD i Str.empty) items.size).length /\
    (∀b o,b<s.heap.objs.size->s.heap.get? b=some o->h'.get? b=some o)) E) F.called_set.init.plain F.entry_set_init (check_set_init_1 ty0 ?_)) λr2 s2 hr2=>?_
   .obtain⟨ol,at1,c1,nl,d1⟩:=hl
    obtain⟨o1,o2,o3,o4⟩:=ol;simp only at c1 d1;subst c1;subst d1;have at2:(s.heap.push (es0 led)).get? l=some { cls := .type "list",dict:=o2,data := .seq items nl,slots:=o4 }:=ydu _ at1;have k8:=F.sub_list_set;have k9:=F.sub_list_frozenset;have k10:(Value.type "list" == Value.type "dict")=false:=by decide
    have il:(s.heap.push (es0 led)).IsList l items:=⟨_,at2,rfl,nl,rfl⟩;unfold Builtin.«set.__init__» noKeywords Builtin.Frozenset.updateFrom;generalize gPI:pyIter=PI
    wp_walk
    subst gPI;refine(wpAny_pyIter_list il ?_);refine(wpAny_bind (wpAny_runValue ?_));have l0:l<s.heap.objs.size:=ydv at1;have h3:A.in1.in1.in1.handled=none:=by simp[hh]
    have n1:l≠(s.heap.push (es0 led)).objs.size:=by
     rw[ydw];exact ydx (ydy l0)
    have n2:s.heap.objs.size∉[(s.heap.push (es0 led)).objs.size,l]:=by
     rw[ydw];simp only[ybf,yei,ydz,or_false,not_or];exact⟨ydx (ycy _),yea l0⟩
    refine qnX ((Walks.list h3 _ l n1 items).toS) s.heap.objs.size n2 (λi=>ys.getD i Str.empty) (λi v hv=>qlp hi i v (by rw[ydb];exact hv)) few (items.size-0) 0 _ (by omega) (ybz _)
     ⟨⟨_,ydt _ rfl,rfl,rfl⟩,(il.push _)⟩ ?h0 ?hR
    case h0=>exact SetOf_congr ((setObjOf_fresh (knd:=PySem.strKind prog w) led).setOf (ydu _ at0) (by unfold scanBound;omega)) (λ_=>rfl) rfl
    case hR =>
     intro s' mv hS';obtain⟨h',g',d',tk',os'⟩:=s';cases(show g'=s.gens from mv.gens);cases(show d'=s.drawn from mv.drawn);cases(show os'=s.os from mv.os);refine(wpAny_pure ?_);show wpAny _ _ (ret Value.none) _ _ _;refine wpAny_pure ⟨rfl,h',tk',rfl,hS',λb o hb e=>mv.heap b o ?_ (ydu _ (ydu _ e))⟩;simp only[ybf,yei,ydz,or_false,not_or];exact⟨ydx hb,by rw[ydw];exact ydx (ydy hb)⟩
   .cases r2 with
    | error e=>exact hr2
    | ok fl2 =>
     cases fl2 with
     | ret r =>
      obtain⟨rfl,h',tk,rfl,z1,z2⟩:=hr2
      repeat (any_goals (first | assumption | wp_step))
      exact k _ _ z1 z2
     | _=>exact hr2.elim
  | _=>exact hr.elim
end
def cnt (ys:List Str):Nat:=(qcG (λi=>ys.getD i Str.empty) ys.length).length
abbrev SsO (P:Program)(w:World)(a:Addr)(n:Nat):HO := .ext λh=>∃S:Str->Bool,h.SetOf (PySem.strKind P w) a S n
section
variable {X:Cx}{P:Program}{w:World}{K:PySem.W.Frag}
def qtE (P:Program)(w:World)(K:PySem.W.Frag):List V->Hp->VK->Prop:=λxs H Q=>∃(l:Addr) (ys:List Str),xs=[.ref l]/\SqL K H l (sV ys)/\ys.length<=1000/\∀p,H p=none->Q (.ref p) (upd H p (SsO P w p (cnt ys)))
theorem qmv (hP:X.prog=P)(hw:X.w=w)(hK:X.K=K)(hc:X.calm=true):qcl X (.type "set") (qtE P w K):=by
 subst hP hw hK;intro pins s σ H xs us Q I r h;obtain⟨l,ys,rfl,hq,hn,q⟩:=h;obtain⟨u,rfl,ru⟩:=qcz r;cases(show u=Value.ref l from ru);obtain⟨its,rv,p,hz⟩:=I.list hq;have hi:=qfb rv;have hl:=StrsAre.len hi;refine qnU (I.ok.hd hc) p.isList (ys:=ys) (by simpa using hi) (by rw[yfh,hl];unfold scanBound;omega) λh' tk hS kp=>?_
 have hS2:h'.SetOf (PySem.strKind X.prog X.w) s.heap.objs.size (λx=>(qcG (λi=>ys.getD i Str.empty) ys.length).any (·==x)) (cnt ys):=by
  have hsz:its.toArray.size=ys.length:=by rw[yfh,hl]
  rw[hsz] at hS;exact hS
 refine⟨.ref s.heap.objs.size,_,I.laid (o:=SsO X.prog X.w s.heap.objs.size (cnt ys)) (λb o e=>kp b o (ydv e) e) (yaz _) ⟨⟨_,hS2⟩,?_,λh1 h2 ⟨S,z⟩ kk=>?_⟩,rfl,q _ I.fresh⟩
 .obtain⟨o,_,_,_,e,_⟩:=hS2
  exact⟨o,e⟩
 .obtain⟨o,es,ep,t,e,rr⟩:=z
  exact⟨S,o,es,ep,t,kk o e,rr⟩
def qtS (P:Program)(w:World):List V->Hp->VK->Prop:=λxs H Q=>∃(p:Addr) (n:Nat),xs=[.ref p]/\H p=some (SsO P w p n)/\n<=1000/\Q (.int (n:Nat)) H
theorem qla (hP:X.prog=P)(hw:X.w=w):qcl X (.builtin "len") (qtS P w):=by
 subst hP hw;intro pins s σ H xs us Q I r h;obtain⟨p,n,rfl,e,hn,q⟩:=h;obtain⟨u,rfl,ru⟩:=qcz r;cases(show u=Value.ref p from ru);obtain⟨S,o,es,ep,t,e1,e2,e3,e4,e5,e6,e7,e8⟩:=(show qbu X.prog X.w H s.heap p (SsO X.prog X.w p n) from I.hok p _ e).1;have hs:es.size=n:=e8;exact call_len_set e1 e2 e3 e7 (by omega) ⟨.int (n:Nat),H,I.tok _,⟨_,by rw[hs]⟩,q⟩
end
theorem qd4 {X:Cx}{x z:Str}{p:Pos}(h:∃t,X.mg x=some (.str z t))(hg:Gl X x)(hd:(x==("__debug__" : Str))=false:=by decide):PE X (.Name x p) (tC (.str z)):=by
 obtain⟨t,h⟩:=h;exact qey hg h ⟨t,rfl⟩ hd
theorem qoz {D:qfX}{σ:St}{H:Hp}{c:TT}{u:TS}:qmV (qr0 c qpn qlF) u D σ H↔c σ H λb H1=>if b=true then False else u D σ H1:=Iff.rfl
end L2
namespace Tx
open PySem
abbrev sg (z:Str):List Nat:=z.cps.toList
theorem ext {a b:Str}(h:sg a=sg b):a=b:=by
 obtain⟨a⟩:=a;obtain⟨b⟩:=b;have:a=b:=Array.toList_inj.mp h;rw[this]
theorem sg_app (a b:Str):sg (a++b)=sg a++sg b:=by
 show(a.cps++b.cps).toList=_;simp
def jn (c:Nat):List (List Nat)->List Nat
 | []=>[]
 | [x]=>x
 | x::y::r=>x++c::jn c (y::r)
theorem sg_join (c:Nat):∀ys:List Str,sg (Str.join ⟨#[c]⟩ ys)=jn c (ys.map sg)
 | []=>rfl
 | [x]=>rfl
 | x::y::r=>by
  show sg (x++⟨#[c]⟩++Str.join ⟨#[c]⟩ (y::r))=sg x++c::jn c ((y::r).map sg);rw[sg_app,sg_app,sg_join c (y::r),ydk];rfl
theorem jn_cons {c:Nat}{x:List Nat}{r:List (List Nat)}(h:r≠[]):jn c (x::r)=x++c::jn c r:=by
 cases r with
 | nil=>exact absurd rfl h
 | cons y r=>rfl
theorem qpk {c:Nat}:∀{x y a b:List Nat},c∉x->c∉y->x++c::a=y++c::b->x=y/\a=b
 | [],[],a,b,_,_,h=>⟨rfl,by simpa using h⟩
 | [],q::y,a,b,_,hy,h=>by
  have:=List.cons.inj h;exact absurd (this.1▸ybd) hy
 | p::x,[],a,b,hx,_,h=>by
  have:=List.cons.inj h;exact absurd (this.1▸ybd) hx
 | p::x,q::y,a,b,hx,hy,h=>by
  have h:=List.cons.inj h;obtain⟨e1,e2⟩:=qpk (λz=>hx (ybg _ z)) (λz=>hy (ybg _ z)) h.2;exact⟨by rw[h.1,e1],e2⟩
theorem qpg {c:Nat}:∀{xs ys:List (List Nat)},xs≠[]->ys≠[]->(∀x∈xs,c∉x)->(∀y∈ys,c∉y)->jn c xs=jn c ys->xs=ys
 | [],_,h,_,_,_,_=>absurd rfl h
 | _,[],_,h,_,_,_=>absurd rfl h
 | [x],[y],_,_,_,_,h=>by rw[show x=y from h]
 | [x],y::q::r,_,_,hx,hy,h=>by
  have h:x=y++c::jn c (q::r):=h;exact absurd (by rw[h];simp) (hx x ybd)
 | x::p::s,[y],_,_,hx,hy,h=>by
  have h:x++c::jn c (p::s)=y:=h;exact absurd (by rw[<-h];simp) (hy y ybd)
 | x::p::s,y::q::r,_,_,hx,hy,h=>by
  have h:x++c::jn c (p::s)=y++c::jn c (q::r):=h;obtain⟨e1,e2⟩:=qpk (hx x ybd) (hy y ybd) h;rw[e1,qpg (by simp) (by simp) (λz hz=>hx z (ybg _ hz)) (λz hz=>hy z (ybg _ hz)) e2]
theorem txt_join (c:Nat)(ys:List Str):sg (Txt.join ⟨#[c]⟩ ys)=jn c (ys.map sg):=by
 rw[show Txt.join ⟨#[c]⟩ ys=Str.join ⟨#[c]⟩ ys from StrLaws.glued_eq_join _ _,sg_join]
theorem qo9:∀{a b:List Str},a.map sg=b.map sg->a=b
 | [],[],_=>rfl
 | [],_::_,h=>by cases h
 | _::_,[],h=>by cases h
 | x::a,y::b,h=>by
  have h:=List.cons.inj h;rw[ext h.1,qo9 h.2]
theorem split_join {c:Nat}{ws:List Str}(h0:ws≠[])(h:∀w∈ws,c∉sg w):Txt.split (Txt.join ⟨#[c]⟩ ws) ⟨#[c]⟩=ws:=by
 have e1:=StrLaws.join_split (Txt.join ⟨#[c]⟩ ws) ⟨#[c]⟩;have e2:=congrArg sg e1;rw[sg_join,txt_join] at e2;have fr:=StrLaws.split_free (Txt.join ⟨#[c]⟩ ws) c;refine qo9 (qpg (c:=c) (λz=>?_) (λz=>h0 (ygm.mp z)) (λx hx=>?_) (λx hx=>?_) e2)
 .have:=PyProof.Rows.split_pos (Txt.join ⟨#[c]⟩ ws) ⟨#[c]⟩
  rw[ygm.mp z] at this;exact absurd this (by decide)
 .obtain⟨p,hp,rfl⟩:=ybu.mp hx
  exact fr p hp
 .obtain⟨p,hp,rfl⟩:=ybu.mp hx
  exact h p hp
theorem jn_mem {c d:Nat}:∀{xs:List (List Nat)},d∈jn c xs->d=c\/∃x∈xs,d∈x
 | [],h=>by cases h
 | [x],h => .inr ⟨x,ybd,h⟩
 | x::y::r,h=>by
  have h:d∈x++c::jn c (y::r):=h;rcases yav.mp h with z | z
  .exact .inr ⟨x,ybd,z⟩
  .rcases ybf.mp z with z | z
   .exact .inl z
   .rcases jn_mem z with w | ⟨q,w1,w2⟩
    .exact .inl w
    .exact .inr ⟨q,ybg _ w1,w2⟩
theorem jn_len {c M:Nat}:∀{xs:List (List Nat)},(∀x∈xs,x.length<=M)->(jn c xs).length<=xs.length*(M+1)
 | [],_=>ybz _
 | [x],h=>by
  have:=h x ybd;show x.length<=1*(M+1);omega
 | x::y::r,h=>by
  have h1:=h x ybd;have h2:=jn_len (c:=c) (M:=M) (xs:=y::r) λz hz=>h z (ybg _ hz);show(x++c::jn c (y::r)).length<=_;rw[ydq,ycb];have e:(x::y::r).length*(M+1)=(y::r).length*(M+1)+(M+1):=by rw[ycb (a:=x),Nat.add_mul,Nat.one_mul]
  rw[e];omega
def Wd (w:Str):Prop:=1<=w.length/\w.length<=8/\∀c∈sg w,97<=c/\c<=122
theorem Wd.free {w:Str}(h:Wd w){c:Nat}(hc:c<97):c∉sg w:=λz=>by
 have:=(h.2.2 c z).1;omega
theorem len_sg (w:Str):(sg w).length=w.length:=by simp[sg,Str.length]
structure Wds (ws:List Str):Prop where
 few:ws.length<=8
 nd:ws.Nodup
 wd:∀w∈ws,Wd w
 no:("none" : Str)∉ws
theorem lit_plus:("+" : Str)=⟨#[43]⟩:=by decide +kernel
theorem lit_space:(" " : Str)=⟨#[32]⟩:=by decide +kernel
theorem lit_dash:("-" : Str)=⟨#[45]⟩:=by decide +kernel
theorem qe5:("none" : Str)=⟨#[110,111,110,101]⟩:=by decide +kernel
theorem lit_empty:("" : Str)=⟨#[]⟩:=by decide +kernel
def wds (ws:List Str)(a:Nat):List Str:=(Fam.nms 8 a).map λk=>ws.getD k Str.empty
def sT (ws:List Str)(a:Nat):Str:=if a=0 then "-" else Txt.join "+" (wds ws a)
def fT (ws:List Str)(fs:List Nat):Str:=if fs=[] then "none" else Txt.join " " (fs.map (sT ws))
theorem qos:∀a,a<256->Fam.nms 8 a=[]->a=0:=by decide +kernel
section
variable {ws:List Str}{a:Nat}
theorem nms_lt (ha:a<2^ws.length){k:Nat}(hk:k∈Fam.nms 8 a):k<ws.length:=by
 have hb:=(Fam.mem_nms.mp hk).2;rcases yag k ws.length with c | c
 .exact c
 .rw[yad (yae ha (yaf (by decide) c))] at hb
  cases hb
theorem wds_mem (h:Wds ws)(ha:a<2^ws.length){w:Str}(hw:w∈wds ws a):w∈ws:=by
 obtain⟨k,hk,rfl⟩:=ybu.mp hw;have hl:=nms_lt ha hk;rw[ycj,yck hl];exact ydp hl
theorem lt256 (h:Wds ws)(ha:a<2^ws.length):a<256:=yae ha (yaf (n:=2) (by decide) h.few)
theorem wds_ne (h:Wds ws)(ha:a<2^ws.length)(h0:a≠0):wds ws a≠[]:=λz=>h0 (qos a (lt256 h ha) (ygm.mp z))
theorem split_sT (h:Wds ws)(ha:a<2^ws.length):Txt.split (sT ws a) "+" = if a=0 then [("-" : Str)] else wds ws a:=by
 rw[lit_plus];unfold sT;by_cases c:a=0
 .rw[if_pos c,if_pos c]
  have:Txt.split (Txt.join ⟨#[43]⟩ [("-" : Str)]) ⟨#[43]⟩=[("-" : Str)]:=split_join (by simp) λw hw=>by
   rw[yei.mp hw,lit_dash];decide
  exact this
 .rw[if_neg c,if_neg c,lit_plus]
  exact split_join (wds_ne h ha c) λw hw=>(h.wd w (wds_mem h ha hw)).free (by decide)
theorem sT_free (h:Wds ws)(ha:a<2^ws.length):32∉sg (sT ws a):=by
 unfold sT;by_cases c:a=0
 .rw[if_pos c,lit_dash]
  decide
 .rw[if_neg c,lit_plus,txt_join]
  intro z;rcases jn_mem z with e | ⟨x,hx,hz⟩
  .exact absurd e (by decide)
  .obtain⟨w,hw,rfl⟩:=ybu.mp hx
   exact(h.wd w (wds_mem h ha hw)).free (by decide) hz
theorem sT_len (h:Wds ws)(ha:a<2^ws.length):(sT ws a).length<=72:=by
 unfold sT;by_cases c:a=0
 .rw[if_pos c,lit_dash]
  decide
 .rw[if_neg c,<-len_sg,lit_plus,txt_join]
  have h1:=jn_len (c:=43) (M:=8) (xs:=(wds ws a).map sg) λx hx=>by
   obtain⟨w,hw,rfl⟩:=ybu.mp hx;rw[len_sg];exact(h.wd w (wds_mem h ha hw)).2.1
  have h2:((wds ws a).map sg).length<=8:=by
   rw[ycd];unfold wds Fam.nms;rw[ycd];exact ybn (ybo _ _) (by simp)
  exact ybn h1 (Nat.mul_le_mul h2 (yaz 9))
theorem sT_none (h:Wds ws)(ha:a<2^ws.length):sT ws a ≠ "none" := by
 unfold sT;by_cases c:a=0
 .rw[if_pos c]
  decide +kernel
 .rw[if_neg c]
  intro z;have hm:=λw hw=>wds_mem h ha (w:=w) hw;have ne:=wds_ne h ha c;have e:=congrArg sg z;rw[lit_plus,txt_join,qe5] at e;cases hw:wds ws a with
  | nil=>exact ne hw
  | cons x r =>
   cases r with
   | nil =>
    rw[hw] at e
    have ex:x = "none" := by
     rw[qe5];exact ext e
    exact h.no (ex▸hm x (by rw[hw];exact ybd))
   | cons y r =>
    rw[hw] at e;have e:sg x++43::jn 43 ((y::r).map sg)=[110,111,110,101]:=e
    have:43∈[110,111,110,101]:=by
     rw[<-e];simp
    exact absurd this (by decide)
theorem split_fT (h:Wds ws){fs:List Nat}(hb:∀b∈fs,b<2^ws.length):Txt.split (fT ws fs) " " = if fs=[] then [("none" : Str)] else fs.map (sT ws):=by
 rw[lit_space];unfold fT;by_cases c:fs=[]
 .rw[if_pos c,if_pos c]
  have:Txt.split (Txt.join ⟨#[32]⟩ [("none" : Str)]) ⟨#[32]⟩=[("none" : Str)]:=split_join (by simp) λw hw=>by
   rw[yei.mp hw,qe5];decide
  exact this
 .rw[if_neg c,if_neg c,lit_space]
  refine split_join (λz=>c (ygm.mp z)) λw hw=>?_;obtain⟨b,hb',rfl⟩:=ybu.mp hw;exact sT_free h (hb b hb')
theorem fT_len (h:Wds ws){fs:List Nat}(hb:∀b∈fs,b<2^ws.length)(hn:fs.length<=100):(fT ws fs).length<=7300:=by
 unfold fT;by_cases c:fs=[]
 .rw[if_pos c,qe5]
  decide
 .rw[if_neg c,<-len_sg,lit_space,txt_join]
  have h1:=jn_len (c:=32) (M:=72) (xs:=(fs.map (sT ws)).map sg) λx hx=>by
   obtain⟨w,hw,rfl⟩:=ybu.mp hx;obtain⟨b,hb',rfl⟩:=ybu.mp hw;rw[len_sg];exact sT_len h (hb b hb')
  rw[ycd,ycd] at h1;exact ybn h1 (Nat.mul_le_mul hn (yaz 73))
theorem idx_wds (h:Wds ws)(ha:a<2^ws.length):(wds ws a).map (λw=>ws.idxOf w)=Fam.nms 8 a:=by
 unfold wds;rw[ycw]
 have:∀k∈Fam.nms 8 a,((λw=>ws.idxOf w) ∘ λk=>ws.getD k Str.empty) k=k:=λk hk=>by
  have hl:=nms_lt ha hk;show ws.idxOf (ws.getD k Str.empty)=k;rw[ycj,yck hl,Option.getD_some];exact h.nd.idxOf_getElem k hl
 rw[yci this,List.map_id']
end
end Tx
namespace L2
open PySem PySem.Spec PyProof.Rows
theorem qbT (ys:List Str):(sV ys).all qbB=true:=by
 rw[ybh];intro x hx;obtain⟨z,_,rfl⟩:=ybu.mp hx;rfl
theorem qe9 (a b:List Str):qgm (sV a) (sV b)=decide (a=b):=by
 unfold qgm;rw[ycd,ycd];by_cases hl:a.length=b.length
 .rw[show(a.length==b.length)=true by simpa using hl,yfw]
  rw[yax,ybh,decide_eq_true_eq];constructor
  .intro h
   refine yej hl λi h1 h2=>?_;have q:=h i (ybj.mpr h1);simpa[List.getD,h1,h2,eqV] using q
  .rintro rfl j hj
   have hj':=ybj.mp hj;simp[List.getD,hj',eqV]
 .rw[show(a.length==b.length)=false by simpa using hl,yeu]
  exact(decide_eq_false λe=>hl (by rw[e])).symm
theorem qqM (w:Str)(ys:List Str):inV (.str w) (sV ys)=decide (w∈ys):=by
 unfold inV;rw[yax,ybl,decide_eq_true_eq];constructor
 .rintro⟨x,hx,e⟩
  obtain⟨z,hz,rfl⟩:=ybu.mp hx;have:z=w:=by simpa[eqV] using e
  exact this▸hz
 .intro h
  exact⟨.str w,ybu.mpr ⟨w,h,rfl⟩,by simp[eqV]⟩
theorem qaI (ys:List Str):(sV ys).length=ys.length:=ycd _
theorem qbh {ys:List Str}{i:Nat}{w:Str}(h:ys[i]?=some w):atI (sV ys) (i:Int)=some (.str w):=qaR (by rw[ycp,h];rfl)
theorem qmq {M:Nat}:∀{ys:List Str},(∀y∈ys,y.length<=M)->(ys.map (·.length)).sum<=ys.length*M
 | [],_=>ybz _
 | y::ys,h=>by
  rw[ycg,ych,ycb,Nat.add_mul,Nat.one_mul];have h1:=h y ybd;have h2:=qmq (M:=M) (ys:=ys) λz hz=>h z (ybg _ hz);omega
theorem qaU {M N:Nat}{ys:List Str}{sep:Str}(h:∀y∈ys,y.length<=M)(hn:ys.length<=N)(hs:sep.length<=1)(hM:N*(M+1)<=16777216):(ys.map (·.length)).sum+ys.length*sep.length<=16777216:=by
 have h1:=qmq h;have h2:ys.length*sep.length<=ys.length*1:=Nat.mul_le_mul_left _ hs;have h3:ys.length*(M+1)<=N*(M+1):=ygl _ hn;rw[Nat.mul_add] at h3;omega
theorem qgE (v:Nat->Str):∀i (w:Str),w∈qcG v i->∃j,j<i/\w=v j
 | 0,w,h=>by cases h
 | i+1,w,h=>by
  have h:w∈if (qcG v i).any (·==v i) then qcG v i else qcG v i++[v i]:=h;split at h
  .obtain⟨j,h1,h2⟩:=qgE v i w h
   exact⟨j,by omega,h2⟩
  .rcases yav.mp h with z | z
   .obtain⟨j,h1,h2⟩:=qgE v i w z
    exact⟨j,by omega,h2⟩
   .exact⟨i,by omega,yei.mp z⟩
theorem qr2 {ys:List Str}(h:ys.Nodup):cnt ys=ys.length:=by
 have all:∀i,i<=ys.length->(qcG (λi=>ys.getD i Str.empty) i).length=i:=by
  intro i
  induction i with
  | zero=>intro _;rfl
  | succ i ih =>
   intro hi;rw[qhe,if_neg,ih (by omega)];intro z;obtain⟨w,hw,e⟩:=ybl.mp z;obtain⟨j,hj,rfl⟩:=qgE _ i w hw;have e:ys.getD j Str.empty=ys.getD i Str.empty:=by simpa using e
   rw[ycj,ycj,yck (by omega),yck (by omega)] at e;have:=(yep h).mp (show ys[j]=ys[i] from e);omega
 exact all ys.length (yaz _)
theorem qoj {z:Str}(h:Tx.Wd z):z.cps.all (· < 128)=true:=by
 rw[<-Array.all_toList,ybh];intro c hc;have:=h.2.2 c hc;exact decide_eq_true (by omega)
theorem quN {x:Nat}(h:97<=x):(!decide ((⟨#[x]⟩:Str).cps.toList<("a" : Str).cps.toList))=true:=by
 have e:("a" : Str).cps.toList=[97]:=by decide +kernel
 rw[e];show(!decide ([x] < [97]))=true;rw[StrLaws.lt_cons_cons,StrLaws.lt_nil_nil,decide_eq_false (by omega)];simp
theorem qu7 {x:Nat}(h:x<=122):(!decide (("z" : Str).cps.toList<(⟨#[x]⟩:Str).cps.toList))=true:=by
 have e:("z" : Str).cps.toList=[122]:=by decide +kernel
 rw[e];show(!decide ([122] < [x]))=true;rw[StrLaws.lt_cons_cons,StrLaws.lt_nil_nil,decide_eq_false (by omega)];simp
def tx (c:Nat)(ys:List Str):Str:=⟨((ys.map λy=>c::Tx.sg y).flatten).toArray⟩
theorem qkU {m a:Nat}(hm:m<=8)(ha:a<2^m):Fam.nms m a=Fam.nms 8 a:=by
 obtain⟨d,e⟩:∃d,8=m+d:=⟨8-m,by omega⟩;rw[show Fam.nms 8 a=Fam.nms (m+d) a from by rw[<-e]];unfold Fam.nms;rw[ycu,yaw]
 have:((List.range d).map (m + ·)).filter (λk=>a.testBit k)=[]:=by
  rw[ygr];intro k hk;obtain⟨j,_,rfl⟩:=ybu.mp hk;rw[yad (yae ha (yaf (by decide) (Nat.le_add_right m j)))];simp
 rw[this,yed]
end L2
namespace L2
open PySem PySem.Spec PyProof.Rows
abbrev abc:Str := "abcdefghijklmnopqrstuvwxyz"
theorem qlv:∀i,i<26->abc.cps[i]?=some (97+i):=by decide +kernel
theorem qra:abc.length=26:=by decide +kernel
def Ls (z:Str):Prop:=∀c∈Tx.sg z,97<=c/\c<=122
theorem qdj {α:Type}(L:List α)(g:α->Str):L.map (λk=>V.str (g k))=sV (L.map g):=by
 show _=List.map V.str (List.map _ _);rw[ycw];rfl
theorem qjI:∀ys:List Str,Tx.sg (Str.join ⟨#[]⟩ ys)=(ys.map Tx.sg).flatten
 | []=>rfl
 | [x]=>by simp[Str.join]
 | x::y::r=>by
  show Tx.sg (x++⟨#[]⟩++Str.join ⟨#[]⟩ (y::r))=_;rw[Tx.sg_app,Tx.sg_app,qjI (y::r),ycg,yfm];simp[Tx.sg]
theorem qdZ (ys:List Str):Tx.sg (Txt.join ("" : Str) ys)=(ys.map Tx.sg).flatten:=by
 rw[Tx.lit_empty,show Txt.join ⟨#[]⟩ ys=Str.join ⟨#[]⟩ ys from StrLaws.glued_eq_join _ _,qjI]
theorem qqS {ys:List Str}(h:∀y∈ys,∃c,y=⟨#[c]⟩/\97<=c/\c<=122):(Txt.join ("" : Str) ys).length=ys.length/\Ls (Txt.join ("" : Str) ys):=by
 constructor
 .rw[<-Tx.len_sg,qdZ]
  induction ys with
  | nil=>rfl
  | cons y ys ih =>
   obtain⟨c,rfl,_⟩:=h y ybd;rw[ycg,yfm,ydq,ih λz hz=>h z (ybg _ hz),ycb];show 1+ys.length=ys.length+1;omega
 .intro c hc
  rw[qdZ] at hc;obtain⟨l,hl,hc⟩:=ygh.mp hc;obtain⟨y,hy,rfl⟩:=ybu.mp hl;obtain⟨d,rfl,h1,h2⟩:=h y hy;rw[show c=d from by simpa[Tx.sg] using hc];exact⟨h1,h2⟩
theorem qlT {z:Str}{lo hi:Option Int}:∀c∈Tx.sg (Txt.slice z lo hi),c∈Tx.sg z:=by
 intro c hc;unfold Txt.slice at hc;split at hc
 .exact hc
 .have hc:c∈(Builtin.Str.strSliceIndices lo hi 1 z.length).filterMap (z.cps[·]?):=by simpa[Tx.sg] using hc
  obtain⟨i,_,e⟩:=ydo.mp hc;have:(Tx.sg z)[i]?=some c:=by simpa[Tx.sg] using e
  exact ycl this
theorem qjV {z:Str}(h:Ls z){lo hi:Option Int}:Ls (Txt.slice z lo hi):=λc hc=>h c (qlT c hc)
theorem qsT {z:Str}{j:Nat}(h:j<=z.length):(Txt.slice z none (some (j:Int))).length=j:=by
 have:=beq_iff_eq.mp (slice_closes_to (x:=z) (j:=(j:Int)) ⟨by omega,by rw[show z.cps.toList.length=z.length from Tx.len_sg z];omega⟩);rw[this,<-Tx.len_sg];show((z.cps.toList.drop _).take _).length=j;rw[yfb,ydg,show z.cps.toList.length=z.length from Tx.len_sg z];simp<;>omega
theorem qow {z:Str}{i:Nat}(h:i<=z.length):(Txt.slice z (some (i:Int)) none).length=z.length-i:=by
 rw[slice_from_eq (b:=z.length) (by omega) (by omega) rfl,<-Tx.len_sg];show((z.cps.toList.drop _).take _).length=_;rw[yfb,ydg,show z.cps.toList.length=z.length from Tx.len_sg z];simp<;>omega
structure Gd (L:List Str):Prop where
 few:L.length<=8
 wd:∀w∈L,Tx.Wd w
 hd:∃w,L[0]?=some w/\w.length≠4
end L2
namespace Fly
open PySem
structure qu9 (fs ch:List Addr)(h h':Heap):Prop where
 keep:∀b o,h.get? b=some o->b∉fs->b∉ch->h'.get? b=some o
 slot:∀b o,h.get? b=some o->b∈fs->b∉ch->∃sl,h'.get? b=some { o with slots:=sl }
def At (h:Heap)(e T:Addr)(cls fl:Value):Prop :=
 T≠e/\∃oe vs oT ts,h.get? e=some oe/\oe.cls=cls/\oe.data = .fields vs/\vs[1]?=some (.ref T)/\h.get? T=some oT/\oT.data = .fields ts/\ts[3]?=some fl
section
variable {M:Model}{A:Around}{E:Value->Shared->Prop}{s:Shared}{base:Heap}{env:Env}{outer:List Env}{L e:Addr}
end
end Fly
namespace Fly
open PySem
abbrev Lk {α:Type}(h:Heap)(t:Sem α)(r:α):Prop:=∀{M:Model}{A:Around}{E:Value->Shared->Prop}{g:Array GenState}{d:Drawn}{tk:Nat}{os:OsState}{Q:α->Shared->Prop},Q r ⟨h,g,d,tk,os⟩->wpAny M A t Q E ⟨h,g,d,tk,os⟩
structure Cl (h:Heap)(C:Addr):Prop where
 ga:Lk h (typeLookup (.ref C) "__getattribute__") (some (.builtin "BaseException.__getattribute__"))
 gt:Lk h (typeLookup (.ref C) "__getattr__") none
 cl:Lk h (typeLookup (.ref C) "__class__") (some (.builtin "object.__class__"))
 be:Lk h (isSubtype (.ref C) (.type "BaseException")) true
 ob:Lk h (isSubtype (.ref C) (.type "object")) true
section
variable {prog:Program}{w:World}{A:Around}{E:Value->Shared->Prop}{h:Heap}{g:Array GenState}{d:Drawn}{t:Nat}{os:OsState}{a C:Addr}{o:Obj}
end
end Fly
namespace L2
open PySem PySem.Spec PyProof.Rows
section
variable {P:Program}{w:World}{H H':Hp}{h h1 h2:Heap}{fs fs' ch:List Addr}
end
def CX1 (P:Program)(w:World):CXT:=λouter H s E x s'=>∃(e T C:Addr) (H':Hp),x = .ref e/\s'.os=s.os/\AllBare s'.gens/\Un (frs outer) [] H H' s.heap s'.heap/\HOk P w H' s'.heap /\
 s.heap.get? e=none/\s.heap.get? T=none/\H' e=none/\H' T=none/\Fly.At s'.heap e T (.ref C) .none/\E (.ref C) none H'
section
variable {P:Program}{w:World}{K:PySem.W.Frag}{mg:Str->Option Value}{base:Heap}{N:List Str}{qual:Str}{scope:Scope}{f:Addr}{cd:Value}{A:Around}{outer:List Env}{s0:Shared}{H0:Hp}{E:XK}
 {pins:List (Addr×Obj)}{σ:St}{H:Hp}{s:Shared}
end
section
variable {X:Cx}
variable {pins ps:List (Addr×Obj)}{σ:St}{H:Hp}{s:Shared}{e:Addr}
end
structure qvc (K:PySem.W.Frag)(C:Addr):Prop where
 cls:∃bmB newId,PySem.W.excIn K C bmB newId=true
 ga:PySem.W.findIn K (.ref C) "__getattribute__" = some (some (.builtin "BaseException.__getattribute__"))
 gt:PySem.W.findIn K (.ref C) "__getattr__" = some none
 cl:PySem.W.findIn K (.ref C) "__class__" = some (some (.builtin "object.__class__"))
 be:PySem.W.subIn K (.ref C) (.type "BaseException")=some true
 ob:PySem.W.subIn K (.ref C) (.type "object")=some true
structure qvb (P:Program)(w:World)(K:PySem.W.Frag)(mg:Str->Option Value)(base:Heap)(x:Str)(k:Nat)(ps:List Str)(sp:Sp)(f:Addr)(fd:FuncData):Prop where
 ok:qaM P w K mg base (CX1 P w) k f fd ps sp
 mg:mg x=some (.ref f)
 kp:PySem.W.keepIn K (.ref f)=true
 bd:qdA K fd ps []
section
variable {K:PySem.W.Frag}{C D:Addr}{b:Bool}{T:String}{cd:ClassData}
end
section
variable {D:qfX}{σ:St}{H:Hp}{u:TS}
end
end L2
namespace Fly
open PySem
section
variable {M:Model}{A:Around}{E:Value->Shared->Prop}{s:Shared}{base:Heap}{env:Env}{outer:List Env}{L e:Addr}
end
end Fly
namespace L2
open PySem PySem.Spec PyProof.Rows
section
variable {X:Cx}{pins:List (Addr×Obj)}{σ:St}{H H':Hp}{s s':Shared}
structure Nw (X:Cx)(pins:List (Addr×Obj))(H:Hp)(b:Addr):Prop where
 old:X.s₀.heap.get? b=none\/b∈X.ex
 loc:b≠X.env.locals
 cel:∀x c,X.env.cells.lookup x=some c->c≠b
 pin:∀p∈X.pn++pins,p.1≠b
 frm:b∉frs X.stack
 non:H b=none
end
section
variable {X:Cx}
end
end L2
namespace L2
open PySem PySem.Spec PyProof.Rows
section
variable {prog:Program}{w:World}{A:Around}{R:Result->Shared->Prop}{s:Shared}
end
section
variable {X:Cx}{tg iter elt:Expr}{ifs:List Expr}{scope:Scope}{pos:Pos}{N:List Str}{nt:Nat}{caps:List Nat}{wi:TI}{g:TG}{tt:TT}{te:TE}{cl:List (Str×Addr)}
end
end L2
namespace Tx
open PySem
section
variable {ws:List Str}{a b:Nat}
theorem qo1 {c:Nat}:∀{xs ys:List (List Nat)},xs≠[]->ys≠[]->jn c xs++c::jn c ys=jn c (xs++ys)
 | [],_,h,_=>absurd rfl h
 | [x],ys,_,h=>by
  show x++c::jn c ys=jn c (x::ys);rw[jn_cons h]
 | x::y::r,ys,_,h=>by
  show(x++c::jn c (y::r))++c::jn c ys=jn c (x::((y::r)++ys));rw[jn_cons (x:=x) (r:=y::r++ys) (by simp),ydk,yfs,qo1 (xs:=y::r) (by simp) h]
theorem join_app {c:Nat}{xs ys:List Str}(h1:xs≠[])(h2:ys≠[]):Txt.join ⟨#[c]⟩ xs++⟨#[c]⟩++Txt.join ⟨#[c]⟩ ys=Txt.join ⟨#[c]⟩ (xs++ys):=by
 refine ext ?_;rw[sg_app,sg_app,txt_join,txt_join,txt_join,ycv,<-qo1 (by simpa using h1) (by simpa using h2),ydk];rfl
def pF (ws:List Str)(fs:List Nat):List Str:=if fs=[] then [("none" : Str)] else fs.map (sT ws)
theorem join_one {c:Nat}(w:Str):Txt.join ⟨#[c]⟩ [w]=w:=rfl
end
end Tx
namespace L2
open PySem PySem.Spec PyProof.Rows
section
variable {X:Cx}{K:PySem.W.Frag}
end
end L2
namespace L2
open PySem PySem.Spec PyProof.Rows
section
variable {X:Cx}{e a b o:Expr}{es:List Expr}{te ta tb to:TE}{t:TA}{pos apos cpos:Pos}
end
def As (z:Str):Prop:=∀c∈Tx.sg z,c<128
section
variable {X:Cx}
end
theorem qpf {c d:Nat}:∀{xs:List (List Nat)}{x:List Nat},x∈xs->d∈x->d∈Tx.jn c xs
 | [y],x,hx,hd=>by rw[yei.mp hx] at hd;exact hd
 | y::y'::r,x,hx,hd=>by
  show d∈y++c::Tx.jn c (y'::r);rcases ybf.mp hx with rfl | hx
  .exact yau _ hd
  .exact yev _ (ybg _ (qpf hx hd))
theorem qqe {z:Str}(h:As z)(c:Nat):∀p∈Txt.split z ⟨#[c]⟩,As p:=λp hp d hd=>by
 have e2:=congrArg Tx.sg (StrLaws.join_split z ⟨#[c]⟩);rw[Tx.sg_join] at e2;exact h d (e2▸qpf (ybu.mpr ⟨p,hp,rfl⟩) hd)
theorem qrh {c:Nat}(hc:c<128){ys:List Str}(h:∀y∈ys,As y):As (Txt.join ⟨#[c]⟩ ys):=λd hd=>by
 rw[Tx.txt_join] at hd;rcases Tx.jn_mem hd with e | ⟨x,hx,hd⟩
 .omega
 .obtain⟨y,hy,rfl⟩:=ybu.mp hx
  exact h y hy d hd
end L2
namespace L2
open PySem PySem.Spec PyProof.Rows
def wdB (z:Str):Bool:=decide (1<=z.length)&&decide (z.length<=8)&&(Tx.sg z).all λc=>decide (97<=c)&&decide (c<=122)
def rN (z:Str):Option (List Str) :=
 if Txt.split z " " = [("" : Str)] then some [] else
 if ((Txt.split z " ").all λw=>wdB w&&!decide (w=("none" : Str)))=true/\(Txt.split z " ").length<=8/\cnt (Txt.split z " ")=(Txt.split z " ").length then some (Txt.split z " ") else none
end L2
namespace L2
open PySem PySem.Spec PyProof.Rows
section
variable {K:PySem.W.Frag}{n k:Nat}{H0 H H1:Hp}{pl:Addr}{ys:List V}{Q:VK}
end
end L2
namespace L2
open PySem PySem.Spec PyProof.Rows
theorem qrD {c:Nat}:∀xs:List (List Nat),(Tx.jn c xs.reverse).length=(Tx.jn c xs).length:=by
 have tot:∀xs:List (List Nat),(Tx.jn c xs).length+(if xs=[] then 1 else 0)+1=(xs.map λx=>x.length+1).sum+(if xs=[] then 2 else 0):=by
  intro xs
  induction xs with
  | nil=>rfl
  | cons x r ih =>
   cases r with
   | nil=>simp[Tx.jn]
   | cons y r =>
    rw[Tx.jn_cons (by simp),ydq,ycb];rw[if_neg (by simp),if_neg (by simp)] at ih⊢;rw[ycg,ych];omega
 intro xs;have h1:=tot xs;have h2:=tot xs.reverse
 have e:(xs.reverse.map λx=>x.length+1).sum=(xs.map λx=>x.length+1).sum:=by
  rw[ygs,List.sum_reverse]
 rw[e] at h2;by_cases h0:xs=[]
 .rw[h0];rfl
 .rw[if_neg h0,if_neg h0] at h1
  rw[if_neg (by simpa using h0),if_neg (by simpa using h0)] at h2;omega
theorem turned {z:Str}(h:As z){c:Nat}(hc:c<128):As (Txt.join ⟨#[c]⟩ (Txt.split z ⟨#[c]⟩).reverse)/\(Txt.join ⟨#[c]⟩ (Txt.split z ⟨#[c]⟩).reverse).length=z.length:=by
 refine⟨qrh hc λy hy=>qqe h c y (ybt.mp hy),?_⟩;have e2:=congrArg Tx.sg (StrLaws.join_split z ⟨#[c]⟩);rw[Tx.sg_join] at e2;rw[<-Tx.len_sg,Tx.txt_join,ygs,qrD,e2,Tx.len_sg]
theorem qnL {c:Nat}:∀{L:List Nat},L.Nodup->(∀x∈L,x=c)->c∈L->L=[c]
 | [],_,_,h=>by cases h
 | x::r,nd,h,_=>by
  have e:=h x ybd;subst e;cases r with
  | nil=>rfl
  | cons y r =>
   have:=h y (ybg _ ybd);subst this;exact absurd ybd (yca.mp nd).1
theorem qbJ {ws:List Str}(nd:ws.Nodup)(w:Str):(List.range ws.length).filter (λk=>decide (ws.getD k Str.empty=w))=if w∈ws then [ws.idxOf w] else []:=by
 have at':∀k,k<ws.length->ws[k]?=some (ws.getD k Str.empty):=λk hk=>by rw[ycj,yck hk];rfl
 by_cases h:w∈ws
 .rw[if_pos h]
  have hl:=ygt h;refine qnL (ycc.sublist ybc) (λx hx=>?_) ?_
  .obtain⟨h1,h2⟩:=yba.mp hx
   have h1:=ybj.mp h1;have h2:=of_decide_eq_true h2;have e1:=at' x h1;have e2:ws[ws.idxOf w]?=some w:=by rw[yck hl,ycs]
   rw[h2] at e1;obtain⟨q1,q2⟩:=ycm.mp e1;obtain⟨q3,q4⟩:=ycm.mp e2;exact(yep nd).mp (q2.trans q4.symm)
  .refine yba.mpr ⟨ybj.mpr hl,decide_eq_true ?_⟩
   have e2:ws[ws.idxOf w]?=some w:=by rw[yck hl,ycs]
   have:=at' _ hl;rw[e2] at this;exact(Option.some.inj this).symm
 .rw[if_neg h,ygr]
  intro k hk z;have z:=of_decide_eq_true z;exact h (z▸ycl (at' k (ybj.mp hk)))
theorem qgv (L:List Nat)(k:Nat):Fam.ofN (L++[k])=Fam.ofN L|||2^k:=by
 unfold Fam.ofN;rw[yar];rfl
theorem qry {g:TG}{tb:TS}{D:qfX}{σ:L2.St}{H:Hp}{n:Nat}{lo:Int}(Pv:Nat->L2.St->Hp->Prop)(h0:Pv 0 σ H)
 (hs:∀i σ H,i<n->Pv i σ H->∀N:L2.St->Hp->Prop,(∀σ' H',Pv (i+1) σ' H'->N σ' H')->g (.int (lo+i)) σ H λσ2 H2=>tb { D with nx:=N,ct:=N,bk:=D.nx } σ2 H2)(hd:∀σ H,Pv n σ H->D.nx σ H):qcT (Itr lo n) g tb D σ H :=
 qqp Pv h0 (λi σ H hi p=>hs i σ H hi p _ λ_ _ q=>q) hd
end L2
namespace L2
open PySem PySem.Spec PyProof.Rows
def KDt (P:Program)(w:World)(K:PySem.W.Frag)(a:Addr)(kvs:List (Key×V)):Prop :=
 (a==sysModules)=false/\∃(o:Obj)(vs:List (Key×Value)),K.lookup a=some o/\KV kvs vs/\∀h:Heap,h.get? a=some o->h.DictOf (qaW P w) a vs
section
variable {X:Cx}{pins:List (Addr×Obj)}{σ:St}{H:Hp}{s:Shared}{a:Addr}{kvs:List (Key×V)}{P:Program}{w:World}{K:PySem.W.Frag}
theorem Inv.kdt (I:Inv X pins σ H s)(h:KDt X.prog X.w X.K a kvs):(a==sysModules)=false/\∃vs,KV kvs vs/\s.heap.DictOf (qaW X.prog X.w) a vs:=by
 obtain⟨z,o,vs,lk,r,d⟩:=h;exact⟨z,vs,r,d _ (I.kIn a o lk)⟩
def qtl (P:Program)(w:World)(K:PySem.W.Frag)(td ty:TE):TE:=λσ H Q=>td σ H λx H1=>ty σ H1 λy H2=>∃(a:Addr) (kvs:List (Key×V)) (k:Key) (v:V),x = .ref a/\y=kV k/\KDt P w K a kvs/\qde kvs k=some v/\Q v H2
def qrL (P:Program)(w:World)(K:PySem.W.Frag)(ty td:TE):TE:=λσ H Q=>ty σ H λy H1=>td σ H1 λx H2=>∃(a:Addr) (kvs:List (Key×V)) (k:Key),x = .ref a/\y=kV k/\KDt P w K a kvs/\Q (.bl (!(qde kvs k).isSome)) H2
variable {o i:Expr}{pos:Pos}{td ty:TE}
theorem qiG (hP:X.prog=P)(hw:X.w=w)(hK:X.K=K)(ho:PE X o td)(hi:PE X i ty)(hs:qtN i):PE X (.Subscript o i pos) (qtl P w K td ty):=by
 subst hP hw hK;intro pins s σ H Q I h;refine qk1 yft.lookup hs (thn (ho pins s σ H _ I h) λu s1 ⟨x,H1,I1,rx,q1⟩=>thn (hi pins s1 σ H1 _ I1 q1) λiv s2 ⟨y,H2,I2,ry,b,kvs,k,v,ex,ey,g,hv,q2⟩=>?_);subst ex ey;obtain rfl:u=Value.ref b:=rx;obtain⟨_,vs,rel,dd⟩:=I2.kdt g;obtain⟨w',hw,rw'⟩:=qir.some_of (v:=v) (o:=valueAt vs k) (by rw[<-hv];exact rel.val k);exact⟨dd.typeIs,wpAny_getItem_of (qke ry) dd.mapOf hw ⟨v,H2,I2.tok _,rw',q2⟩⟩
theorem qpX (hP:X.prog=P)(hw:X.w=w)(hK:X.K=K)(hi:PE X i ty)(ho:PE X o td):PC X .NotIn i o (qrL P w K ty td):=by
 subst hP hw hK;intro pins s σ H Q I h;refine thn (hi pins s σ H _ I h) λiv s1 ⟨y,H1,I1,ry,q1⟩=>thn (ho pins s1 σ H1 _ I1 q1) λu s2 ⟨x,H2,I2,rx,b,kvs,k,ex,ey,g,q2⟩=>?_;subst ex ey;obtain rfl:u=Value.ref b:=rx;obtain⟨hd,vs,rel,dd⟩:=I2.kdt g;refine wpAny_notIn_of (qke ry) hd dd.mapOf ?_;rw[<-(rel.val k).isSome_eq];exact⟨.bl _,H2,I2.tok _,rfl,q2⟩
end
section
variable {X:Cx}
def qqd:V->List V->Hp->VK->Prop:=λx vs H Q=>∃(z y:Str) (n:Nat),x = .str z/\vs=[.str y,.int (n:Nat)]/\(y.length==0)=false/\z.length<=100000/\n<=1000/\∀l,H l=none->Q (.ref l) (upd H l (.lst (sV (Txt.splitMax z y (n:Int)))))
theorem qs5 (z y:Str)(n:Int):(Txt.splitMax z y n).length<=z.length+2:=by
 unfold Txt.splitMax;split
 .exact Nat.le_add_left _ _
 .split
  .exact Nat.le_add_left _ _
  .have e1:=StrLaws.occ_length_le_len z y 0 z.length (limitOf z n)
   rw[length_partsBetween];omega
theorem qm1:MtM X "str.split" qqd:=by
 intro pins s σ H x vs v us Q I rx rv h;obtain⟨z,y,n,rfl,rfl,hy,hz,hn,q⟩:=h;obtain⟨t,rfl⟩:=rx;obtain⟨u,u3,rfl,ru,ru3⟩:=qod rv;obtain⟨t2,rfl⟩:=ru;obtain⟨t3,rfl⟩:=ru3;have hl:=qs5 z y (n:Int);have e24:sizeLine=16777216:=sizeLine_eq
 have hk:(decide ((n:Int) < -(2^63:Int))||decide ((n:Int)≥2^63))=false:=by
  rw[decide_eq_false (by omega),decide_eq_false (by omega)];rfl
 have fin:∀(l:List (Str×Tok)) (k:Nat),l.map (·.1)=Txt.splitMax z y (n:Int)->EP X pins σ Q (.ref s.heap.objs.size) { s with heap:=s.heap.push { cls := .type "list",data := .seq (strValues l).toArray },toks:=k }:=λl k e =>
  ⟨.ref s.heap.objs.size,_,I.lnew (ys:=sV (Txt.splitMax z y (n:Int))) (t':=k) (by rw[<-e];exact qfx l) (by rw[ycd];omega),rfl,q _ I.fresh⟩
 cases h1:(decide (z.length<y.length)||decide (Builtin.Str.strKind z<Builtin.Str.strKind y)) with
 | true=>exact call_meets F.slot_str_split (typeIs_str _ _ _) F.entry_str_split (F.args_str_split_3 _ _ _) (meets_str_split_max_cannot_occur z y n t t2 t3 hk h1) (fin [(z,t)] s.toks (if_pos h1).symm)
 | false =>
  cases h2:(Builtin.Str.occurrences z y 0 z.length (limitOf z n)).isEmpty with
  | true=>exact call_meets F.slot_str_split (typeIs_str _ _ _) F.entry_str_split (F.args_str_split_3 _ _ _) (meets_str_split_max_not_found z y n t t2 t3 hk h1 hy h2) (fin [(z,t)] s.toks ((if_neg (ne_true_of_eq_false h1)).trans (if_pos h2)).symm)
  | false =>
   have es:Txt.splitMax z y (n:Int)=Builtin.Str.partsBetween z (Builtin.Str.occurrences z y 0 z.length (limitOf z n)) y.length:=(if_neg (ne_true_of_eq_false h1)).trans (if_neg (ne_true_of_eq_false h2));refine call_meets F.slot_str_split (typeIs_str _ _ _) F.entry_str_split (F.args_str_split_3 _ _ _) (meets_str_split_sep_max z y n t t2 t3 hk h1 hy h2 (by omega) (by rw[<-es];omega)) ?_;rw[strsFrom_eq];exact fin (numbered s.toks _) _ ((numbered_texts _ _).trans es.symm)
end
end L2
namespace L2
open PySem PySem.Spec PyProof.Rows
structure Drw (P:Program)(w:World)(it src:Addr)(tn:Nat->Heap->Prop)(vs:Array Value):Prop where
 item:∀{A:Around}{E:Value->Shared->Prop}{s:Shared}{k:Nat}{x:Value}{Q:Value->Shared->Prop},tn k s.heap->vs[k]?=some x->(∀g,tn (k+1) g->Heap.SameBut it s.heap g->Q x { s with heap:=g })->wpAny (model P w) A (Builtin.SmallTypes.nextOf (.ref it)) Q E s
 stop:∀{A:Around}{E:Value->Shared->Prop}{s:Shared}{k:Nat}{Q:Value->Shared->Prop},A.handled=none->tn k s.heap->vs[k]?=none->(∀g e,Heap.ExtBut it s.heap g->(∃o,g.get? e=some o/\o.cls = .type "StopIteration")->E (.ref e) { s with heap:=g })->wpAny (model P w) A (Builtin.SmallTypes.nextOf (.ref it)) Q E s
 keep:∀{k:Nat}{h g:Heap},tn k h->(∀b o,(b=it\/b=src)->h.get? b=some o->g.get? b=some o)->tn k g
 rcd:∀{k:Nat}{h:Heap},tn k h->∃o,h.get? it=some o/\∀v,o.data ≠ .cell v
section
variable {P:Program}{w:World}{it src:Addr}{vs:Array Value}
theorem Drw.list (ne:src≠it):Drw P w it src (λk h=>h.IsListIter it src k/\h.IsList src vs) vs where
 item:=λ⟨h1,h2⟩ hx q=>wpAny_nextOf_list_item h1 h2 hx λg a b=>q g ⟨a,h2.extBut b.extBut ne⟩ b
 stop:=λhh ⟨h1,h2⟩ hx q=>wpAny_nextOf_list_end hh h1 h2 hx q
 keep:=λ⟨h1,h2⟩ k=>⟨h1.at λo e=>k it o (.inl rfl) e,h2.at λo e=>k src o (.inr rfl) e⟩
 rcd:=λ⟨⟨o,e,_,d⟩,_⟩=>⟨o,e,λv z=>by rw[d] at z;cases z⟩
theorem Drw.tup (ne:src≠it):Drw P w it src (λk h=>IsTupIter h it src k/\IsTup h src vs) vs where
 item:=by
  rintro A E s k x Q ⟨h1,h2⟩ hx q;obtain⟨oi,gi,ci,di⟩:=id h1;obtain⟨ot,gt,ct,nt,dt⟩:=id h2;unfold Builtin.SmallTypes.nextOf;refine wpAny_bind (wpAny_callSpecial?_slot (name:=Str.ofString "__next__") h1.typeIs slot_tupleiter_next (wpAny_call_entry slot_tupleiter_next h1.typeIs entry_tupleiter_next ?_ (args_tupleiter_next _)));show wpAny _ _ (field (.ref it) 0 >>= _) _ _ s;refine wpAny_bind (wpAny_field gi di (x := .ref src) rfl ?_);show wpAny _ _ (if (Value.ref src==Value.none)=true then _ else _) _ _ s;rw[if_neg (show ¬((Value.ref src==Value.none)=true) from yet)];show wpAny _ _ (field (.ref it) 1 >>= _) _ _ s;refine wpAny_bind (wpAny_field gi di (x := .int k 0) rfl ?_);show wpAny _ _ (seqItems? (.ref src) >>= _) _ _ s;refine wpAny_bind (wpAny_seqItems gt dt ?_);simp only[yfg,hx]
  have st:IsTupIter (s.heap.update it (Obj.mapFields (·.setIfInBounds 1 (rawInt (k+1))))) it src (k+1) :=
   ⟨_,ydr _ gi (Obj.isFreed_of_fields (Obj.data_mapFields di _)),(Obj.cls_mapFields ..).trans ci,by rw[Obj.data_mapFields di];simp[rawInt]⟩
  refine wpAny_bind (wpAny_setField gi di (by simp) (wpAny_pure ⟨x,rfl,wpAny_pure (q _ ⟨st,ot,?_,ct,nt,dt⟩ (Heap.SameBut.update ..))⟩));rw[yeg _ _ (Ne.symm ne)];exact gt
 stop:=by
  rintro A E s k Q hh ⟨h1,h2⟩ hx q;obtain⟨oi,gi,ci,di⟩:=id h1;obtain⟨ot,gt,ct,nt,dt⟩:=id h2;unfold Builtin.SmallTypes.nextOf;refine wpAny_bind (wpAny_callSpecial?_slot (name:=Str.ofString "__next__") h1.typeIs slot_tupleiter_next (wpAny_call_entry slot_tupleiter_next h1.typeIs entry_tupleiter_next ?_ (args_tupleiter_next _)));show wpAny _ _ (field (.ref it) 0 >>= _) _ _ s;refine wpAny_bind (wpAny_field gi di (x := .ref src) rfl ?_);show wpAny _ _ (if (Value.ref src==Value.none)=true then _ else _) _ _ s;rw[if_neg (show ¬((Value.ref src==Value.none)=true) from yet)];show wpAny _ _ (field (.ref it) 1 >>= _) _ _ s;refine wpAny_bind (wpAny_field gi di (x := .int k 0) rfl ?_);show wpAny _ _ (seqItems? (.ref src) >>= _) _ _ s;refine wpAny_bind (wpAny_seqItems gt dt ?_);simp only[yfg,hx];refine wpAny_bind (wpAny_rule (wpAny_bind (wpAny_setField gi di (by simp) ?_)));show wpAny _ _ (newExc (.type "StopIteration") [] >>= _) _ _ _;refine wpAny_bind ?_;simp only[newExc,newTuple];refine wpAny_bind (wpAny_newObj_type ?_ (by size_fits));refine wpAny_bind (m:=firstArgMember _ _) (wpAny_of_eq (a:=Value.none) (by first | rfl | (simp only[firstArgMember];rfl)) (wpAny_newObj_type ?_ (by size_fits)));simp only[raiseNew];refine wpAny_bind (wpAny_handled ?_);first | rw[show A.in1.handled=none from hh] | rw[hh]
  exact wpAny_bind (wpAny_pure (wpAny_throw (q _ _ (((Heap.SameBut.update ..).extBut.push _).push _) ⟨_,ydt _ rfl,rfl⟩)))
 keep:=λ⟨h1,h2⟩ k=>by
  obtain⟨oi,gi,ri⟩:=h1;obtain⟨ot,gt,rt⟩:=h2;exact⟨⟨oi,k it oi (.inl rfl) gi,ri⟩,ot,k src ot (.inr rfl) gt,rt⟩
 rcd:=λ⟨⟨o,e,_,d⟩,_⟩=>⟨o,e,λv z=>by rw[d] at z;cases z⟩
variable {A:Around}{E:Value->Shared->Prop}{s:Shared}{z TI TO i1 i2 l1 l2:Addr}{t1 t2:Nat->Heap->Prop}{xs ys:Array Value}{k:Nat}{a b:Value}
theorem qp3 {x y:Value}{Q:Option Value->Shared->Prop}(D:ZipApart z TI TO i1 i2 l1 l2)(D1:Drw P w i1 l1 t1 xs)(D2:Drw P w i2 l2 t2 ys)
 (hz:IsZip s.heap z TI TO .none)(hI:IsPair s.heap TI (.ref i1) (.ref i2))(hO:IsPair s.heap TO a b)(c1:t1 k s.heap)(c2:t2 k s.heap)(hx:xs[k]?=some x)(hy:ys[k]?=some y)
 (q:∀g,IsZip g z TI TO (rawInt s.heap.objs.size)->IsPair g TO x y->t1 (k+1) g->t2 (k+1) g->IsPair g s.heap.objs.size x y->(∀c o,c≠z->c≠TO->c≠i1->c≠i2->s.heap.get? c=some o->g.get? c=some o)->Q (some (.ref s.heap.objs.size)) { s with heap:=g }) :
 wpAny (model P w) A (pyNext (.ref z)) Q E s:=by
 have tz:s.TypeIs (.ref z) "zip" := ⟨_,hz,rfl⟩;unfold pyNext;refine wpAny_bind (wpAny_attempt (wpAny_callSpecial?_slot (name:=Str.ofString "__next__") tz F.slot_zip_next (wpAny_call_entry F.slot_zip_next tz F.entry_zip_next ?_ (F.args_zip_next_1 _))));show wpAny _ _ (field (.ref z) 2 >>= _) _ _ _;refine wpAny_bind (wpAny_field hz rfl (x := .bool false) rfl ?_);show wpAny _ _ (field (.ref z) 3 >>= _) _ _ _;refine wpAny_bind (wpAny_field hz rfl (x := .ref TI) rfl (wpAny_bind (wpAny_seqItems hI rfl ?_)));show wpAny _ _ (Builtin.SmallTypes.ownedTupleIsFree (.ref z) >>= _) _ _ _;refine wpAny_bind ?_;unfold Builtin.SmallTypes.ownedTupleIsFree;refine wpAny_bind (wpAny_field hz rfl (x := .none) rfl (wpAny_pure ?_));simp only[if_true];refine wpAny_bind (wpAny_rule (wpAny_bind (wpAny_field hz rfl (x := .ref TO) rfl ?_)));refine wpAny_bind (wpAny_setField_rec hz (by simp) λg1 e1 m1=>?_);replace e1:IsZip g1 z TI TO .ellipsis:=e1;refine wpAny_bind ?_;simp only[List.zipIdx_cons,List.zipIdx_nil,yfv,List.forIn_nil];have c1':t1 k g1:=D1.keep c1 λb o hb e=>m1.extBut _ _ (by rcases hb with rfl | rfl;exact D.i1z;exact D.l1z) e;have c2':t2 k g1:=D2.keep c2 λb o hb e=>m1.extBut _ _ (by rcases hb with rfl | rfl;exact D.i2z;exact D.l2z) e;refine wpAny_bind (wpAny_bind (wpAny_onRaise ?_));show wpAny _ _ (Builtin.SmallTypes.nextOf (.ref i1) >>= _) _ _ _;refine wpAny_bind (D1.item (s:={ s with heap:=g1 }) c1' hx λg2 d1 m2=>wpAny_pure ?_);have o2:IsPair g2 TO a b:=m2.extBut _ _ D.TOi1 (m1.extBut _ _ D.TOz hO);refine wpAny_bind (wpAny_seqItems o2 rfl (wpAny_bind (wpAny_updateSeq_pair o2 λg3 o3 m3=>wpAny_bind (wpAny_letGo (wpAny_pure ?_)))));replace o3:IsPair g3 TO x b:=o3;have c2':t2 k g3:=D2.keep c2' λb o hb e=>m3.extBut _ _ (by rcases hb with rfl | rfl;exact D.TOi2.symm;exact D.l2TO) (m2.extBut _ _ (by rcases hb with rfl | rfl;exact D.i12.symm;exact D.l2i1) e);refine wpAny_bind (wpAny_bind (wpAny_onRaise ?_));show wpAny _ _ (Builtin.SmallTypes.nextOf (.ref i2) >>= _) _ _ _;refine wpAny_bind (D2.item (s:={ s with heap:=g3 }) c2' hy λg4 d2 m4=>wpAny_pure ?_);have o4:IsPair g4 TO x b:=m4.extBut _ _ D.TOi2 o3;refine wpAny_bind (wpAny_seqItems o4 rfl (wpAny_bind (wpAny_updateSeq_pair o4 λg5 o5 m5=>wpAny_bind (wpAny_letGo (wpAny_pure (wpAny_pure ?_))))));replace o5:IsPair g5 TO x y:=o5;refine wpAny_bind (wpAny_seqItems o5 rfl (wpAny_bind (wpAny_newTuple ?_)));have sz:g5.objs.size=s.heap.objs.size:=by rw[m5.1,m4.1,m3.1,m2.1,m1.1]
 have z5:IsZip g5 z TI TO .ellipsis:=m5.extBut _ _ D.TOz.symm (m4.extBut _ _ D.i2z.symm (m3.extBut _ _ D.TOz.symm (m2.extBut _ _ D.i1z.symm e1)));have old:∀c o,c≠z->c≠TO->c≠i1->c≠i2->s.heap.get? c=some o->g5.get? c=some o:=λc o n1 n2 n3 n4 e=>m5.extBut _ _ n2 (m4.extBut _ _ n4 (m3.extBut _ _ n2 (m2.extBut _ _ n3 (m1.extBut _ _ n1 e))));have d1':t1 (k+1) g5:=D1.keep d1 λb o hb e=>m5.extBut _ _ (by rcases hb with rfl | rfl;exact D.TOi1.symm;exact D.l1TO) (m4.extBut _ _ (by rcases hb with rfl | rfl;exact D.i12;exact D.l1i2) (m3.extBut _ _ (by rcases hb with rfl | rfl;exact D.TOi1.symm;exact D.l1TO) e));have d2':t2 (k+1) g5:=D2.keep d2 λb o hb e=>m5.extBut _ _ (by rcases hb with rfl | rfl;exact D.TOi2.symm;exact D.l2TO) e;have zl:z<g5.objs.size:=ydv z5;show wpAny _ _ (Builtin.SmallTypes.ownedTupleHandOut (.ref z) (.ref g5.objs.size) >>= _) _ _ _;refine wpAny_bind ?_;unfold Builtin.SmallTypes.ownedTupleHandOut;have z6:IsZip (g5.push { cls := .type "tuple",data := .seq #[x,y] }) z TI TO .ellipsis:=ydu _ z5;refine wpAny_bind (wpAny_setField_rec z6 (by simp) λg7 z7 m7=>?_);replace z7:IsZip g7 z TI TO (rawInt g5.objs.size):=z7;refine wpAny_setField_rec z7 (by simp) λg8 z8 m8=>?_;replace z8:IsZip g8 z TI TO (rawInt g5.objs.size):=z8;have up:∀c o,c≠z->g5.get? c=some o->g8.get? c=some o:=λc o n e=>m8.extBut _ _ n (m7.extBut _ _ n (ydu _ e));have p8:IsPair g8 g5.objs.size x y:=m8.extBut _ _ (yea zl) (m7.extBut _ _ (yea zl) (ydt _ rfl));rw[sz] at z8 p8;refine wpAny_pure ⟨_,rfl,wpAny_pure ?_⟩;show Q (some (.ref g5.objs.size)) _;rw[sz];exact q g8 z8 (up _ _ D.TOz o5) (D1.keep d1' λb o hb e=>up b o (by rcases hb with rfl | rfl;exact D.i1z;exact D.l1z) e) (D2.keep d2' λb o hb e=>up b o (by rcases hb with rfl | rfl;exact D.i2z;exact D.l2z) e) p8 λc o n1 n2 n3 n4 e=>up c o n1 (old c o n1 n2 n3 n4 e)
theorem qqo {Q:Option Value->Shared->Prop}(hh:A.handled=none)(D:ZipApart z TI TO i1 i2 l1 l2)(D1:Drw P w i1 l1 t1 xs)
 (hz:IsZip s.heap z TI TO .none)(hI:IsPair s.heap TI (.ref i1) (.ref i2))(hO:IsPair s.heap TO a b)(c1:t1 k s.heap)(hx:xs[k]?=none)
 (q:∀g,(∀c o,c≠z->c≠TO->c≠i1->c≠i2->s.heap.get? c=some o->g.get? c=some o)->Q none { s with heap:=g }):wpAny (model P w) A (pyNext (.ref z)) Q E s:=by
 have tz:s.TypeIs (.ref z) "zip" := ⟨_,hz,rfl⟩;unfold pyNext;refine wpAny_bind (wpAny_attempt (wpAny_callSpecial?_slot (name:=Str.ofString "__next__") tz F.slot_zip_next (wpAny_call_entry F.slot_zip_next tz F.entry_zip_next ?_ (F.args_zip_next_1 _))));show wpAny _ _ (field (.ref z) 2 >>= _) _ _ _;refine wpAny_bind (wpAny_field hz rfl (x := .bool false) rfl ?_);show wpAny _ _ (field (.ref z) 3 >>= _) _ _ _;refine wpAny_bind (wpAny_field hz rfl (x := .ref TI) rfl (wpAny_bind (wpAny_seqItems hI rfl ?_)));show wpAny _ _ (Builtin.SmallTypes.ownedTupleIsFree (.ref z) >>= _) _ _ _;refine wpAny_bind ?_;unfold Builtin.SmallTypes.ownedTupleIsFree;refine wpAny_bind (wpAny_field hz rfl (x := .none) rfl (wpAny_pure ?_));simp only[if_true];refine wpAny_bind (wpAny_rule (wpAny_bind (wpAny_field hz rfl (x := .ref TO) rfl ?_)));refine wpAny_bind (wpAny_setField_rec hz (by simp) λg1 e1 m1=>?_);replace e1:IsZip g1 z TI TO .ellipsis:=e1;refine wpAny_bind ?_;simp only[List.zipIdx_cons,List.zipIdx_nil,yfv,List.forIn_nil];have c1':t1 k g1:=D1.keep c1 λb o hb e=>m1.extBut _ _ (by rcases hb with rfl | rfl;exact D.i1z;exact D.l1z) e;refine wpAny_bind (wpAny_bind (wpAny_onRaise ?_));show wpAny _ _ (Builtin.SmallTypes.nextOf (.ref i1) >>= _) _ _ _;refine wpAny_bind (D1.stop (s:={ s with heap:=g1 }) hh c1' hx λg2 e m2 ⟨oe,ge,ce⟩=>?_);have z2:IsZip g2 z TI TO .ellipsis:=m2 _ _ D.i1z.symm e1;have nz:e≠z:=λx=>by subst x;rw[z2] at ge;cases ge;simp at ce
 refine wpAny_setField_rec z2 (by simp) λg3 _ m3=>?_;refine wpAny_bind (wpAny_isInstance (T := "StopIteration") (b:=true) ⟨oe,m3.extBut _ _ nz ge,ce⟩ isSubtype_stop (wpAny_pure (q g3 λc o n1 _ n3 _ x=>m3.extBut _ _ n1 (m2 _ _ n3 (m1.extBut _ _ n1 x)))))
end
end L2
namespace Tx
open PySem
def qf8 (c:Nat):List Nat->Nat->List Nat
 | [],_=>[]
 | d::r,k=>if d=c then k::qf8 c r (k+1) else qf8 c r (k+1)
theorem qgL (c:Nat):∀(a b:List Nat) (k:Nat),qf8 c (a++b) k=qf8 c a k++qf8 c b (k+a.length)
 | [],b,k=>rfl
 | d::r,b,k=>by
  show(if d=c then k::qf8 c (r++b) (k+1) else qf8 c (r++b) (k+1))=(if d=c then k::qf8 c r (k+1) else qf8 c r (k+1))++_;rw[qgL c r b (k+1),ycb,show k+1+r.length=k+(r.length+1) by omega];split<;>rfl
theorem qiu (c:Nat):∀(a:List Nat) (k:Nat),c∉a->qf8 c a k=[]
 | [],_,_=>rfl
 | d::r,k,h=>by
  show(if d=c then k::qf8 c r (k+1) else qf8 c r (k+1))=[];rw[if_neg (λe:d=c=>h (by rw[e];exact ybd)),qiu c r (k+1) λz=>h (ybg _ z)]
theorem qfy (c:Nat):∀(L:List Nat) (k:Nat),(List.range' k (L.length+1)).filter (λi=>decide (L[i-k]?=some c))=qf8 c L k
 | [],k=>by simp[List.range',qf8]
 | d::r,k=>by
  rw[ycb,List.range'_succ,ycf];have ih:=qfy c r (k+1)
  have e:(List.range' (k+1) (r.length+1)).filter (λi=>decide ((d::r)[i-k]?=some c))=(List.range' (k+1) (r.length+1)).filter (λi=>decide (r[i-(k+1)]?=some c)):=by
   refine yat λi hi=>?_;have:=(List.mem_range'_1.mp hi).1;rw[show i-k=(i-(k+1))+1 by omega,ygu]
  rw[e,ih];show(if decide ((d::r)[k-k]?=some c)=true then _ else _)=if d=c then _ else _;rw[ygf,ygv];by_cases h:d=c
  .rw[if_pos (by simpa using h),if_pos h]
  .rw[if_neg (by simpa using h),if_neg h]
theorem qhh (x:Str)(c k:Nat):∀(n a:Nat) (st:Array Nat×Nat),st.2<=a ->
 (forIn (List.range' a n) st (StrLaws.occBody x ⟨#[c]⟩ x.length k)).run.fst.toList=st.1.toList++((List.range' a n).filter (λi=>decide ((sg x)[i]?=some c))).take (k-st.1.size)
 | 0,a,st,_=>by simp[List.range']
 | n+1,a,st,h=>by
  rw[List.range'_succ,yfv,ycf];unfold StrLaws.occBody;have one:=StrLaws.subAt_one x c a;by_cases hc:(sg x)[a]?=some c
  .have hA:=one.mpr hc
   rw[show decide ((sg x)[a]?=some c)=true from decide_eq_true hc];by_cases hk:st.1.size<k
   .rw[if_pos ⟨⟨⟨hk,h⟩,hA.1⟩,hA.2⟩]
    have ih:=qhh x c k n (a+1) (st.1.push a,a+1) (yaz _);refine Eq.trans ih ?_;rw[ydj,Array.size_push,ydk];congr 1;obtain⟨m,e⟩:∃m,k-st.1.size=m+1:=⟨k-st.1.size-1,by omega⟩;rw[e,show k-(st.1.size+1)=m by omega];rfl
   .rw[if_neg λz=>hk z.1.1.1]
    have ih:=qhh x c k n (a+1) (st.1,st.2) (Nat.le_succ_of_le h);refine Eq.trans ih ?_;rw[show k-st.1.size=0 by omega];simp
  .rw[if_neg (λz=>hc (one.mp ⟨z.1.2,z.2⟩)),show decide ((sg x)[a]?=some c)=false from decide_eq_false hc]
   exact qhh x c k n (a+1) (st.1,st.2) (Nat.le_succ_of_le h)
theorem qqE (x:Str)(c k:Nat):Builtin.Str.occurrences x ⟨#[c]⟩ 0 x.length k=(qf8 c (sg x) 0).take k:=by
 rw[StrLaws.occ_eq];have h:=qhh x c k (x.length+1-0) 0 (#[],0) (yaz _);refine Eq.trans h ?_;have e:=qfy c (sg x) 0;rw[len_sg] at e;simp only[Nat.sub_zero] at e⊢;rw[e];simp
theorem qiz {x:Str}{A B C:List Nat}(h:sg x=A++B++C):Builtin.Str.strSub x A.length (A.length+B.length)=⟨B.toArray⟩:=by
 refine ext ?_;show(Builtin.Str.strSub x A.length (A.length+B.length)).cps.toList=_;rw[StrLaws.strSub_toList,show x.cps.toList=A++B++C from h,Nat.add_sub_cancel_left,ydk,List.drop_left,List.take_left]
theorem qsC (x:Str){c:Nat}(hc:c<256)(k:Nat):Txt.splitMax x ⟨#[c]⟩ (k:Int)=StrLaws.partsFrom x 1 0 ((qf8 c (sg x) 0).take k):=by
 unfold Txt.splitMax
 have hl:limitOf x (k:Int)=k:=by
  unfold limitOf;rw[if_neg (by omega),yfg]
 have nil:(qf8 c (sg x) 0).take k=[]->[x]=StrLaws.partsFrom x 1 0 ((qf8 c (sg x) 0).take k):=λe=>by
  rw[e];show[x]=[Builtin.Str.strSub x 0 x.length];rw[StrLaws.sub_whole]
 split
 .rename_i h
  refine nil ?_;rw[ycz,decide_eq_true_eq,decide_eq_true_eq] at h;rcases h with h | h
  .have h:x.length<1:=h
   have:sg x=[]:=yec.mp (by rw[len_sg];omega);rw[this];simp[qf8]
  .have e1:Builtin.Str.strKind ⟨#[c]⟩=1:=by
    unfold Builtin.Str.strKind;rw[if_pos (by simp[hc])]
   have:1<=Builtin.Str.strKind x:=by
    unfold Builtin.Str.strKind;split
    .decide
    .split<;>decide
   omega
 .rw[hl,qqE]
  split
  .rename_i h
   exact nil (List.isEmpty_iff.mp h)
  .rw[StrLaws.partsBetween_eq]
   rfl
theorem max_two {x a b r:Str}{c:Nat}(hc:c<256)(h:sg x=sg a++c::(sg b++c::sg r))(ha:c∉sg a)(hb:c∉sg b):Txt.splitMax x ⟨#[c]⟩ 2=[a,b,r]:=by
 have e:Txt.splitMax x ⟨#[c]⟩ ((2:Nat):Int)=_:=qsC x hc 2;refine Eq.trans e ?_
 have e1:qf8 c (sg x) 0=(sg a).length::((sg a).length+1+(sg b).length)::qf8 c (sg r) ((sg a).length+1+(sg b).length+1):=by
  rw[h,qgL,qiu c _ _ ha];show(if c=c then _ else _)=_;rw[if_pos rfl,qgL,qiu c _ _ hb];show _::(if c=c then _ else _)=_;rw[if_pos rfl,Nat.zero_add]
 rw[e1];show[Builtin.Str.strSub x 0 (sg a).length,Builtin.Str.strSub x ((sg a).length+1) ((sg a).length+1+(sg b).length),Builtin.Str.strSub x ((sg a).length+1+(sg b).length+1) x.length]=_;have z1:=qiz (x:=x) (A:=[]) (B:=sg a) (C:=c::(sg b++c::sg r)) (by simpa using h);have z2:=qiz (x:=x) (A:=sg a++[c]) (B:=sg b) (C:=c::sg r) (by rw[h];simp);have z3:=qiz (x:=x) (A:=sg a++[c]++sg b++[c]) (B:=sg r) (C:=[]) (by rw[h];simp)
 have hl:x.length=(sg a).length+1+(sg b).length+1+(sg r).length:=by
  rw[<-len_sg,h];simp only[ydq,ycb];omega
 rw[hl];simp only[ydq,ycb,List.length_nil,Nat.zero_add] at z1 z2 z3;rw[z1,z2,z3]
theorem split_cons {x a r:Str}{c:Nat}(h:sg x=sg a++c::sg r)(ha:c∉sg a):Txt.split x ⟨#[c]⟩=a::Txt.split r ⟨#[c]⟩:=by
 have hp:=PyProof.Rows.split_pos r ⟨#[c]⟩;have ne:Txt.split r ⟨#[c]⟩≠[]:=λz=>by rw[z] at hp;exact absurd hp (by decide)
 have e:x=Txt.join ⟨#[c]⟩ (a::Txt.split r ⟨#[c]⟩):=by
  refine ext ?_;have e1:=congrArg sg (StrLaws.join_split r ⟨#[c]⟩);rw[sg_join] at e1;rw[txt_join,ycg,jn_cons (by simpa using ne),e1,h]
 rw[e];refine split_join (by simp) λw hw=>?_;rcases ybf.mp hw with rfl | hw
 .exact ha
 .exact StrLaws.split_free r c w hw
theorem split_nofree {x:Str}{c:Nat}(h:c∉sg x):Txt.split x ⟨#[c]⟩=[x]:=by
 have:=split_join (c:=c) (ws:=[x]) (by simp) (λw hw=>by rw[yei.mp hw];exact h);exact this
end Tx
namespace L2
open PySem PySem.Spec PyProof.Rows
structure qvd (P:Program)(w:World)(K:PySem.W.Frag)(mg:Str->Option Value)(base:Heap)(C:Addr)(m:Str)(k:Nat)(ps:List Str)(sp:Sp)(f:Addr)(fd:FuncData):Prop where
 ok:qaM P w K mg base (CX1 P w) k f fd ps sp
 me:qsz K C m f
 bd:qdA K fd ps []
structure qva (P:Program)(w:World)(K:PySem.W.Frag)(mg:Str->Option Value)(base:Heap)(C:Addr)(k:Nat)(ps:List Str)(sp:Sp)(f:Addr)(fd:FuncData):Prop where
 ok:qaM P w K mg base (CX1 P w) k f fd ps sp
 mc:Mk K C f
 bd:qdA K fd ps []
section
variable {X:Cx}{k j:Nat}{f C:Addr}{fd:FuncData}{ps:List Str}{sp:Sp}{E:XK}{x m:Str}{p pos apos:Pos}{e o:Expr}{es:List Expr}{ta:TE}{t:TA}
end
def qtz (K:PySem.W.Frag)(a b:Addr):It :=
 ⟨λi H=>∃xs ys x y,SqT K H a xs/\SqL K H b ys/\xs[i]?=some x/\ys[i]?=some y,λi H v H'=>∃t,v = .ref t/\H t=none/\∀xs ys x y,SqT K H a xs->SqL K H b ys->xs[i]?=some x->ys[i]?=some y->H'=upd H t (.tup [x,y]),
  λi H=>∃xs,SqT K H a xs/\xs.length<=i⟩
theorem qkJ {P:Program}{w:World}{K:PySem.W.Frag}{elts:List Expr}{x1:Nat}{pos:Pos}(a b z TI TO i1 i2:Addr)(D:ZipApart z TI TO i1 i2 a b):qlr P w K (.Tuple elts x1 pos) (qtz K a b) [z,TI,TO,i1,i2] z
 (λi h=>IsZip h z TI TO .none/\IsPair h TI (.ref i1) (.ref i2)/\(∃c d,IsPair h TO c d)/\IsTupIter h i1 a i/\h.IsListIter i2 b i) where
 mem:=by simp
 obj:=λi h st c hc=>by
  obtain⟨hz,h1,⟨c1,d1,h2⟩,⟨o1,e1,_,q1⟩,⟨o2,e2,_,q2⟩⟩:=st;simp only[ybf,ydz,or_false] at hc;rcases hc with rfl | rfl | rfl | rfl | rfl
  .exact⟨_,hz,λv y=>by have y':Data.fields _=Data.cell v:=y;cases y'⟩
  .exact⟨_,h1,λv y=>by have y':Data.seq _ _=Data.cell v:=y;cases y'⟩
  .exact⟨_,h2,λv y=>by have y':Data.seq _ _=Data.cell v:=y;cases y'⟩
  .exact⟨o1,e1,λv y=>by rw[q1] at y;cases y⟩
  .exact⟨o2,e2,λv y=>by rw[q2] at y;cases y⟩
 keep:=λi h h' st k=>by
  obtain⟨hz,h1,⟨c1,d1,h2⟩,⟨o1,e1,q1⟩,h4⟩:=st;exact⟨k z (by simp) _ hz,k TI (by simp) _ h1,⟨c1,d1,k TO (by simp) _ h2⟩,⟨o1,k i1 (by simp) _ e1,q1⟩,h4.at λo q=>k i2 (by simp) o q⟩
 item:=by
  intro X hP hw hK hc i pins s σ H E I hf st hg;subst hP hw hK;obtain⟨xs,ys,x,y,hqa,hqb,hx,hy⟩:=hg;obtain⟨itsa,rva,pa,hza⟩:=I.tuple hqa;obtain⟨itsb,rvb,pb,hzb⟩:=I.list hqb;obtain⟨u,hu,ru⟩:=rva.get hx;obtain⟨v,hv,rv⟩:=rvb.get hy;obtain⟨hz,h1,⟨c1,d1,h2⟩,h3,h4⟩:=st;have fr:=I.hok.fresh (yaz s.heap.objs.size)
  have lt:∀c∈[z,TI,TO,i1,i2],c<s.heap.objs.size:=λc hc=>by
   simp only[ybf,ydz,or_false] at hc;rcases hc with rfl | rfl | rfl | rfl | rfl
   .exact ydv hz
   .exact ydv h1
   .exact ydv h2
   .obtain⟨_,q,_⟩:=h3;exact ydv q
   .obtain⟨_,q,_⟩:=h4;exact ydv q
  refine qp3 D (Drw.tup D.l1i1) (Drw.list D.l2i2) hz h1 h2 ⟨h3,pa⟩ ⟨h4,pb.isList⟩ (x:=u) (y:=v) (by simpa using hu) (by simpa using hv) λh' a1 a2 a3 a4 a5 hk=>⟨_,rfl,?_⟩;refine wpAny_letOwnedTupleGo_zip (s:={ s with heap:=h' }) a1 λg2 hz2 hs2=>?_
  have I1:Inv X pins σ (upd H s.heap.objs.size (.tup [x,y])) { s with heap:=s.heap.push { cls := .type "tuple",data := .seq #[u,v] },toks:=s.toks } :=
   I.laid (t':=s.toks) (λb u e=>ydu _ e) (yaz _) ⟨by simp;decide,[u,v],.cons ru (.cons rv .nil),⟨_,ydt _ rfl,rfl,_,rfl⟩⟩
  have up:∀c∈[z,TI,TO,i1,i2],upd H s.heap.objs.size (.tup [x,y]) c=none:=λc hc=>by
   rw[qay (ydx (lt c hc))];exact(hf c hc).1
  have I2:Inv X pins σ (upd H s.heap.objs.size (.tup [x,y])) { s with heap:=g2,toks:=s.toks }
   := Inv.turnedL (s:={ s with heap:=s.heap.push { cls := .type "tuple",data := .seq #[u,v] },toks:=s.toks }) (h':=g2) (t':=s.toks) (ch:=[z,TI,TO,i1,i2]) I1 (λb o hb q=>by
   simp only[ybf,ydz,or_false,not_or] at hb;rw[hs2.2 b hb.1];by_cases c:b=s.heap.objs.size
   .subst c
    have q0:(s.heap.push { cls := .type "tuple",data := .seq #[u,v] }).get? s.heap.objs.size=some { cls := .type "tuple",data := .seq #[u,v] }:=ydt _ rfl;have q1:(s.heap.push { cls := .type "tuple",data := .seq #[u,v] }).get? s.heap.objs.size=some o:=q;rw[q0] at q1;cases q1;exact a5
   .have q1:(s.heap.push { cls := .type "tuple",data := .seq #[u,v] }).get? b=some o:=q
    rw[yge _ _ _ c] at q1;exact hk b o hb.1 hb.2.2.1 hb.2.2.2.1 hb.2.2.2.2 q1) (λc hc=>⟨up c hc,(hf c hc).2⟩)
  refine⟨.ref s.heap.objs.size,_,I2,rfl,⟨_,rfl,fr,λxs' ys' x' y' hxa hyb hx' hy'=>?_⟩,⟨hz2,?_,⟨_,_,(hs2.2 TO D.TOz).trans a2⟩,?_,a4.1.at λo q=>(hs2.2 i2 D.i2z).trans q⟩,up⟩
  .rw[I.tuple_inj hxa hqa,hx] at hx'
   rw[I.list_inj hyb hqb,hy] at hy';cases hx';cases hy';rfl
  .exact(hs2.2 TI D.TIz).trans (hk TI _ D.TIz D.TITO D.TIi1 D.TIi2 h1)
  .obtain⟨o,e,r⟩:=a3.1
   exact⟨o,(hs2.2 i1 D.i1z).trans e,r⟩
 done:=by
  intro X hP hw hK hc i pins s σ H E I hf st hg;subst hP hw hK;obtain⟨xs,hqa,hx⟩:=hg;obtain⟨itsa,rva,pa,hza⟩:=I.tuple hqa;obtain⟨hz,h1,⟨c1,d1,h2⟩,h3,h4⟩:=st;have la:=rva.length;refine qqo (I.ok.hd hc) D (Drw.tup D.l1i1) hz h1 h2 ⟨h3,pa⟩ (by simp;omega) λh' hk=>⟨rfl,I.turnedL (t':=s.toks) (ch:=[z,TI,TO,i1,i2]) (λb o hb e=>?_) hf⟩;simp only[ybf,ydz,or_false,not_or] at hb;exact hk b o hb.1 hb.2.2.1 hb.2.2.2.1 hb.2.2.2.2 e
 self:=λ_ _ _ _ _ st h=>wpAny_pyIter_zip st.1 h
abbrev qtv (h:Heap)(l1:Addr):Heap:=h.push { cls := .type "tuple_iterator",data := .fields #[.ref l1,.int 0 0] }
abbrev qtq (h:Heap)(l1 l2:Addr):Heap:=(qtv h l1).push { cls := .type "list_iterator",data := .fields #[.ref l2,.int 0 0] }
abbrev qty (h:Heap)(l1 l2:Addr):Heap:=(qtq h l1 l2).push { cls := .type "tuple",data := .seq #[.ref h.objs.size,.ref (qtv h l1).objs.size] }
abbrev qtp (h:Heap)(l1 l2:Addr):Heap:=(qty h l1 l2).push { cls := .type "tuple",data := .seq #[.none,.none] }
abbrev qrr (h:Heap)(l1 l2:Addr):Heap:=(qtp h l1 l2).push { cls := .type "zip",data := .fields #[.none,.bool false,.bool false,.ref (qtq h l1 l2).objs.size,.ref (qty h l1 l2).objs.size] }
theorem qkv (l1 l2:Addr)(xs ys:Array Value):Meets (Builtin.«zip.__new__» ⟨[.type "zip",.ref l1,.ref l2],[]⟩) (λ_ R s=>IsTup s.heap l1 xs/\s.heap.IsList l2 ys/\R (.ok (.ret (.ref (qtp s.heap l1 l2).objs.size))) { s with heap:=qrr s.heap l1 l2 }) :=
 .of_wp λprog w A R s h=>by
  obtain⟨hp,g,d,tk,os⟩:=s;obtain⟨q1,q2,h⟩:=h;have hsub:=sub_zip;have hL1:IsTup (Shared.heap ⟨hp,g,d,tk,os⟩) l1 xs:=q1;have hL2:Heap.IsList (Shared.heap ⟨hp.push { cls := .type "tuple_iterator",data := .fields #[.ref l1,.int 0 0] },g,d,tk,os⟩) l2 ys:=Heap.IsList.push q2 _
  wp_walk using iter_tuple hL1,wpAny_pyIter_list hL2
  exact⟨_,rfl,h⟩
theorem qne {prog:Program}{w:World}{A:Around}{E:Value->Shared->Prop}{s:Shared}{l1 l2:Addr}{xs ys:Array Value}{Q:Value->Shared->Prop}(q1:IsTup s.heap l1 xs) (q2:s.heap.IsList l2 ys)
 (h:∀g,IsZip g (s.heap.objs.size+4) (s.heap.objs.size+2) (s.heap.objs.size+3) .none->IsPair g (s.heap.objs.size+2) (.ref s.heap.objs.size) (.ref (s.heap.objs.size+1))->IsPair g (s.heap.objs.size+3) .none .none->IsTupIter g s.heap.objs.size l1 0->g.IsListIter (s.heap.objs.size+1) l2 0 ->
  (∀c o,s.heap.get? c=some o->g.get? c=some o)->Q (.ref (s.heap.objs.size+4)) { s with heap:=g }) :
 wpAny (model prog w) A (call (.type "zip") [.ref l1,.ref l2]) Q E s:=by
 refine callType_new F.called_zip (by decide) (F.typeCall_zip_2 _ _) (F.newCall_zip_2 _ _) (λobj=>F.args_object_init_3 obj _ _) F.entry_zip_new (qkv l1 l2 xs ys) ⟨q1,q2,?_⟩;have z1:(qtv s.heap l1).objs.size=s.heap.objs.size+1:=ydw ..;have z2:(qtq s.heap l1 l2).objs.size=s.heap.objs.size+2:=by rw[ydw,z1]
 have z3:(qty s.heap l1 l2).objs.size=s.heap.objs.size+3:=by rw[ydw,z2]
 have z4:(qtp s.heap l1 l2).objs.size=s.heap.objs.size+4:=by rw[ydw,z3]
 have k5:(qrr s.heap l1 l2).get? (qtp s.heap l1 l2).objs.size=some _:=ydt _ rfl;have k4:(qrr s.heap l1 l2).get? (qty s.heap l1 l2).objs.size=some _:=ydu _ (ydt _ rfl);have k3:(qrr s.heap l1 l2).get? (qtq s.heap l1 l2).objs.size=some _:=ydu _ (ydu _ (ydt _ rfl));have k2:(qrr s.heap l1 l2).get? (qtv s.heap l1).objs.size=some _:=ydu _ (ydu _ (ydu _ (ydt _ rfl)));have k1:(qrr s.heap l1 l2).get? s.heap.objs.size=some _:=ydu _ (ydu _ (ydu _ (ydu _ (ydt _ rfl))));show _/\_;rw[z2,z3,z4] at k5;rw[z1,z2] at k3;rw[z3] at k4;rw[z1] at k2;rw[z4];exact⟨⟨_,k5,rfl⟩,h _ k5 k3 k4 ⟨_,k1,rfl,rfl⟩ ⟨_,k2,rfl,rfl⟩ λc o x=>ydu _ (ydu _ (ydu _ (ydu _ (ydu _ x))))⟩
section
variable {X:Cx}{K:PySem.W.Frag}
def qrA (K:PySem.W.Frag)(ta:TA):TI:=λσ H R=>ta σ H λvs H1=>∃a b xs ys,vs=[.ref a,.ref b]/\SqT K H1 a xs/\SqL K H1 b ys/\R (qtz K a b) H1
theorem qpR {a b:Expr}{elts:List Expr}{x1:Nat}{tp:Pos}{ta:TA}{p pos:Pos}(hK:X.K=K)(hg:Gl X "zip")(hm:X.mg "zip" = none)(ha:PA X [a,b] ta)(hs:starEach [a,b] X.env=(false,eval a X.env)::starEach [b] X.env:=by rfl)(hs2:(backTo pos (starEach [b] X.env)).any (·.1)=false:=by rfl):PI X (.Tuple elts x1 tp) (.Call (.Name "zip" p) [a,b] [] pos) (qrA K ta):=by
 subst hK;intro pins s σ H R I h;refine Call_ (qdc I hg hm PyProof.Rows.boot_zip (PyProof.Rows.callWith_type1 (thn (ha pos pins s σ H _ I h) λus s1 ⟨vs,H1,I1,r1,q1⟩=>?_) hs hs2));obtain⟨l1,l2,xs,ys,rfl,hqa,hqb,q⟩:=q1;obtain⟨u,v,rfl,ru,rv⟩:=qod r1;cases ru;cases rv;obtain⟨itsa,rva,pa,hza⟩:=I1.tuple hqa;obtain⟨itsb,rvb,pb,hzb⟩:=I1.list hqb;have la:l1<s1.heap.objs.size:=by obtain⟨_,q,_⟩:=pa;exact ydv q
 have lb:l2<s1.heap.objs.size:=by obtain⟨_,q,_⟩:=pb.isList;exact ydv q
 generalize en:s1.heap.objs.size=n at la lb;refine qne pa pb.isList λh' g1 g2 g3 g4 g5 hk=>?_;rw[en] at g1 g2 g3 g4 g5⊢;have I2:Inv X pins σ H1 { s1 with heap:=h' }:=I1.kept (t':=s1.toks) hk;refine wpAny_pyIter_zip g1 ⟨n+4,[n+4,n+2,n+3,n,n+1],_,_,H1,rfl,I2,qkJ l1 l2 (n+4) (n+2) (n+3) n (n+1) ?_,⟨g1,g2,⟨_,_,g3⟩,g4,g5⟩,λc hb=>?_,q⟩
 .have la':@LT.lt Nat _ l1 n:=la
  have lb':@LT.lt Nat _ l2 n:=lb;constructor<;>(intro z;exact absurd (show @Eq Nat _ _ from z) (by omega))
 .have:n<=c:=by
   simp only[ybf,ydz,or_false] at hb;rcases hb with rfl | rfl | rfl | rfl | rfl<;>omega
  exact I1.fpOk (by omega) (I1.hok.fresh (by omega))
end
section
variable {K:PySem.W.Frag}{g:TG}{tt:TT}{te:TE}{nt:Nat}{caps:List Nat}{σ:L2.St}{H:Hp}{a b:Addr}{ta:TA}{Q:VK}
theorem qoJ:qfY nt caps (qrA K ta) g tt te σ H Q↔ta σ H λvs H1=>∃a b xs ys,vs=[.ref a,.ref b]/\SqT K H1 a xs/\SqL K H1 b ys/\qcH (qtz K a b) nt caps g tt te σ H1 Q:=Iff.rfl
theorem qsA {xs ys:List V}(hle:xs.length=ys.length)(Pv:Nat->List V->Hp->Prop)(h0:Pv 0 [] H)(hz:xs.length<=sizeLine)(hl:∀i zs H1,i<=xs.length->Pv i zs H1->SqT K H1 a xs/\SqL K H1 b ys/\zs.length<=i)
 (hs:∀i x y zs H1 t,xs[i]?=some x->ys[i]?=some y->Pv i zs H1->H1 t=none->∀(R:VK) (R':Hp->Prop),(∀v H2,Pv (i+1) (zs++[v]) H2->R v H2)->(∀H2,Pv (i+1) zs H2->R' H2) ->
  g (.ref t) (qa2 nt caps σ) (upd H1 t (.tup [x,y])) λσ4 H4=>tt σ4 H4 λb H5=>if b=true then te σ4 H5 R else R' H5)
 (hd:∀zs H1,Pv xs.length zs H1->∀p,H1 p=none->Q (.ref p) (upd H1 p (.lst zs))):qcH (qtz K a b) nt caps g tt te σ H Q:=by
 refine⟨λi m zs H1=>m=xs.length-i/\i<=xs.length/\Pv i zs H1,⟨_,rfl,ybz _,h0⟩,?_⟩;rintro i m zs H2 ⟨rfl,hi,p⟩;obtain⟨hqa,hqb,hlen⟩:=hl i zs H2 hi p;by_cases hlt:i<xs.length
 .have hx:xs[i]?=some xs[i]:=yck hlt
  have hy:ys[i]?=some (ys[i]'(by omega)):=yck _;refine .inr ⟨⟨xs,ys,_,_,hqa,hqb,hx,hy⟩,by omega,λx H3 y=>?_⟩;obtain⟨t,rfl,ht,y⟩:=y;rw[y _ _ _ _ hqa hqb hx hy];exact hs i _ _ zs H2 t hx hy p ht _ _ (λv H4 q=>⟨xs.length-(i+1),by omega,rfl,hlt,q⟩) λH4 q=>⟨xs.length-(i+1),by omega,rfl,hlt,q⟩
 .obtain rfl:i=xs.length:=by omega
  exact .inl ⟨⟨xs,hqa,yaz _⟩,by omega,λp' hp'=>hd zs H2 p p' hp'⟩
end
end L2
namespace L2
open PySem PySem.Spec PyProof.Rows
def qhm:Sp:=λ_ _ _ _=>False
structure qeQ (P:Program)(w:World)(K:PySem.W.Frag)(mg:Str->Option Value)(base:Heap)(C:Addr)(m:Str)(k:Nat)(ps:List Str)(sp:Sp)(f:Addr)(fd:FuncData):Prop where
 ok:qaM P w K mg base CX0 k f fd ps sp
 me:qsz K C m f
 bd:qdA K fd ps []
structure qq9 (P:Program)(w:World)(K:PySem.W.Frag)(mg:Str->Option Value)(base:Heap)(C:Addr)(k:Nat)(ps:List Str)(sp:Sp)(f:Addr)(fd:FuncData):Prop where
 ok:qaM P w K mg base CX0 k f fd ps sp
 mc:Mk K C f
 bd:qdA K fd ps []
section
variable {X:Cx}{k j:Nat}{f C:Addr}{fd:FuncData}{ps:List Str}{sp:Sp}{x m:Str}{p pos apos:Pos}{e o:Expr}{es:List Expr}{ta:TE}{t:TA}
theorem qbF {pl:Sem Bool}(he:PE X o ta)(c:Cls X.K C)(M:qeQ X.prog X.w X.K X.mg X.base C m k ps sp f fd)(hr:qdE j X.A)(hj:k<=j)(ha:PA X (e::es) t)
 (hst:starEach (e::es) X.env=(false,eval e X.env)::starEach es X.env:=by rfl)(hpl:(backTo pos (starEach es X.env)).any (·.1)=false:=by rfl)
 (ht:eval (.Call (.Attribute o m apos) (e::es) [] pos) X.env=(do
  let ov <-eval o X.env
  standAt apos.atName
  let (f,first) <-holding [ov] (getMethod ov m pl)
  callWith pos f first (backTo pos (starEach (e::es) X.env)) (backToKw pos (keywordEach [] X.env))):=by rfl) :
 PE X (.Call (.Attribute o m apos) (e::es) [] pos) (qqZ C m sp [] E0 ta t):=qpY he c M.me M.ok (hr.mono hj) M.bd .nil qqP ha hst hpl ht
theorem qnK (M:qq9 X.prog X.w X.K X.mg X.base C k ps sp f fd)(hr:qdE j X.A)(hj:k+1<=j)(hg:Gl X x)(hm:X.mg x=some (.ref C))(ha:PA X (e::es) t)(hdb:(x==("__debug__" : Str))=false:=by decide)
 (he:starEach (e::es) X.env=(false,eval e X.env)::starEach es X.env:=by rfl)(hpl:(backTo pos (starEach es X.env)).any (·.1)=false:=by rfl) :
 PE X (.Call (.Name x p) (e::es) [] pos) (qpU C sp [] E0 t):=qpZ M.mc M.ok (hr.mono hj) hg hm M.bd .nil qqP ha hdb he hpl
end
def qiP:List (Str×List Str):=[("let",["new", "text"]),("hits",["new", "family"]),("rests",["new", "family"]),("either",["new", "family", "family"]),("both",["new", "family", "family"]),("in",["new", "family", "name"]),("out",["new", "family", "name"]),("show",["family"]),("says",["family", "set"]),("look",["family", "set"]),("held",["family", "family"]),("compare",["family", "name", "name"]),("turns",["family"]),("ranks",["family"]),("weights",["family"])]
def wanted (z:Str):Option (List Str):=qiP.lookup z
structure Wnt (P:Program)(w:World)(K:PySem.W.Frag)(aW:Addr):Prop where
 kv:∃kvs,KDt P w K aW kvs/\∀z ks,wanted z=some ks->∃t,qde kvs (Sum.inr z)=some (.ref t)/\∀H,SqT K H t (sV ks)
structure Prt (z:Str)(d:Str)(r ks:List Str):Prop where
 hd:(Txt.split z " ")[0]?=some d
 kd:wanted d=some ks
 ps:(if d = "let" then Txt.splitMax z " " 2 else Txt.split z " ")=d::r
 ln:r.length=ks.length
 sz:z.length<=9000
inductive Th where
 | nm (z:Str) | fm (fs:List Nat) | nu (a:Nat)
def ThV (H:Hp):Th->V->Prop
 | .nm z,v=>v = .str z
 | .fm fs,v=>∃p,v = .ref p/\H p=some (.lst (nV fs))
 | .nu a,v=>v = .int (a:Nat)
theorem ThV.same {H H':Hp}(s:qar H H'):∀{th:Th}{v:V},ThV H th v->ThV H' th v
 | .nm _,_,h=>h
 | .fm _,_,⟨p,e,h⟩=>⟨p,e,s _ _ h⟩
 | .nu _,_,h=>h
structure Fml (n:Nat)(fs:List Nat):Prop where
 rise:fs.Pairwise (· < ·)
 lt:∀b∈fs,b<2^n
 few:fs.length<=70
inductive Thg (ws:List Str)(m:List (Str×List Nat)):Str->Str->Th->Prop
 | new {w:Str}:Tx.Wd w->Thg ws m "new" w (.nm w)
 | fam {w:Str}{fs:List Nat}:m.lookup w=some fs->Thg ws m "family" w (.fm fs)
 | name {w:Str}:w∈ws->Thg ws m "name" w (.nu (ws.idxOf w))
 | set {a:Nat}:a<2^ws.length->Thg ws m "set" (Tx.sT ws a) (.nu a)
 | text {fs:List Nat}:Fml ws.length fs->Thg ws m "text" (Tx.fT ws fs) (.fm fs)
def qpr (pw pk:Addr):List (Str×V):=[("words",.ref pw),("kept",.ref pk)]
theorem kne:¬(("words" : Str) = "kept"):=by decide +kernel
theorem qim (pw pk:Addr):(qpr pw pk).lookup ("words" : Str)=some (.ref pw):=by
 unfold qpr;rw[yfu];simp
theorem qhD (pw pk:Addr):(qpr pw pk).lookup ("kept" : Str)=some (.ref pk):=by
 unfold qpr;rw[yfu,show(("kept" : Str) == "words")=false from beq_eq_false_iff_ne.mpr λe=>kne e.symm];simp
theorem qcs (pw pk:Addr){m:Str}(h1:(m==("words" : Str))=false)(h2:(m==("kept" : Str))=false):(qpr pw pk).lookup m=none:=by
 unfold qpr;simp only[List.lookup,h1,h2]
theorem qn0 (pw pk:Addr):qhb "kept" (.ref pk) (qhb "words" (.ref pw) [])=qpr pw pk:=by
 show(if ("words" : Str) = "kept" then _ else _)=_;rw[if_neg kne];rfl
def Kps (H:Hp)(kvs:List (Key×V))(m:List (Str×List Nat)):Prop :=
 kvs.length=m.length/\∀n:Str,match m.lookup n with
  | some fs=>∃p,qde kvs (Sum.inr n)=some (.ref p)/\H p=some (.lst (nV fs))
  | none=>qde kvs (Sum.inr n)=none
theorem Kps.same {H H':Hp}{kvs:List (Key×V)}{m:List (Str×List Nat)}(k:Kps H kvs m)(s:∀p fs,H p=some (.lst (nV fs))->H' p=some (.lst (nV fs))):Kps H' kvs m:=by
 refine⟨k.1,λn=>?_⟩;have h:=k.2 n;cases e:m.lookup n with
 | none=>rw[e] at h;exact h
 | some fs =>
  rw[e] at h;obtain⟨p,h1,h2⟩:=h;exact⟨p,h1,s p fs h2⟩
theorem Kps.get {H:Hp}{kvs:List (Key×V)}{m:List (Str×List Nat)}(k:Kps H kvs m){n:Str}{fs:List Nat}(e:m.lookup n=some fs):∃p,qde kvs (Sum.inr n)=some (.ref p)/\H p=some (.lst (nV fs)):=by
 have h:=k.2 n;rw[e] at h;exact h
theorem Kps.no {H:Hp}{kvs:List (Key×V)}{m:List (Str×List Nat)}(k:Kps H kvs m){n:Str}(e:m.lookup n=none):qde kvs (Sum.inr n)=none:=by
 have h:=k.2 n;rw[e] at h;exact h
def qpH:List (Str×List Nat)->Str->List Nat->List (Str×List Nat)
 | [],n,fs=>[(n,fs)]
 | (x,gs)::r,n,fs=>if x=n then (x,fs)::r else (x,gs)::qpH r n fs
theorem qcy (n x:Str)(fs:List Nat):∀m:List (Str×List Nat),(qpH m n fs).lookup x=if x=n then some fs else m.lookup x
 | []=>by
  show List.lookup x [(n,fs)]=_;by_cases h:x=n
  .simp[h]
  .simp[List.lookup,h,beq_eq_false_iff_ne.mpr h]
 | (y,gs)::r=>by
  have ih:=qcy n x fs r;show List.lookup x (if y=n then (y,fs)::r else (y,gs)::qpH r n fs)=_;by_cases h:y=n
  .rw[if_pos h]
   by_cases g:x=n
   .subst h;subst g;simp
   .have:(x==y)=false:=beq_eq_false_iff_ne.mpr λe=>g (e.trans h)
    simp only[List.lookup,this,if_neg g]
  .rw[if_neg h]
   by_cases g:x=y
   .subst g;simp[if_neg h]
   .have:(x==y)=false:=beq_eq_false_iff_ne.mpr g
    simp only[List.lookup,this];exact ih
theorem qdy (n:Str)(fs:List Nat):∀m:List (Str×List Nat),(qpH m n fs).length=m.length+if (m.lookup n).isSome then 0 else 1
 | []=>rfl
 | (y,gs)::r=>by
  have ih:=qdy n fs r;show(if y=n then (y,fs)::r else (y,gs)::qpH r n fs).length=_;by_cases h:y=n
  .rw[if_pos h]
   subst h;simp
  .rw[if_neg h,ycb,ih,ycb]
   have:(n==y)=false:=beq_eq_false_iff_ne.mpr λe=>h e.symm;simp only[List.lookup,this];omega
theorem qkw (kvs:List (Key×V))(k:Key)(v:V):(qis kvs k v).length=kvs.length+if (qde kvs k).isSome then 0 else 1:=by
 unfold qis;rw[qdG];cases(qde kvs k).isSome<;>simp
theorem Kps.put {H:Hp}{kvs:List (Key×V)}{m:List (Str×List Nat)}(k:Kps H kvs m){n:Str}{fs:List Nat}{p:Addr}(h:H p=some (.lst (nV fs))):Kps H (qis kvs (Sum.inr n) (.ref p)) (qpH m n fs):=by
 refine⟨?_,λx=>?_⟩
 .rw[qkw,qdy,k.1]
  have e:=k.2 n;cases c:m.lookup n with
  | none=>rw[c] at e;rw[e];rfl
  | some gs =>
   rw[c] at e;obtain⟨q,e1,_⟩:=e;rw[e1];rfl
 .rw[qcy,qoK]
  by_cases g:x=n
  .rw[if_pos g,if_pos (by rw[g])]
   exact⟨p,rfl,h⟩
  .rw[if_neg g,if_neg (λe=>g (Sum.inr.inj e))]
   exact k.2 x
structure qda (C:Addr)(H:Hp)(d pk:Addr)(ws:List Str)(m:List (Str×List Nat)):Prop where
 ob:∃dx pw,H d=some (.ins C dx (qpr pw pk))/\H pw=some (.lst (sV ws))
 dc:∃kvs,H pk=some (.dK kvs)/\Kps H kvs m
 wd:Tx.Wds ws
 fm:∀n fs,m.lookup n=some fs->Fml ws.length fs
 ms:m.length<=20
theorem qda.same {C:Addr}{H H':Hp}{d pk:Addr}{ws:List Str}{m:List (Str×List Nat)}(D:qda C H d pk ws m)(s:qar H H'):qda C H' d pk ws m:=by
 obtain⟨dx,pw,h1,h2⟩:=D.ob;obtain⟨kvs,h3,h4⟩:=D.dc;exact⟨⟨dx,pw,s _ _ h1,s _ _ h2⟩,⟨kvs,s _ _ h3,h4.same λp fs h=>s _ _ h⟩,D.wd,D.fm,D.ms⟩
def SmB (pk:Addr)(H H':Hp):Prop:=∀b o,H b=some o->b≠pk->H' b=some o
section
variable {K:PySem.W.Frag}{D:qfX}{σ:L2.St}{H:Hp}{u:TS}{ta tv td ty:TE}{f:Str}
theorem qoi:qmV (quc K ta tv f) u D σ H↔tv σ H λy H1=>ta σ H1 λx H2=>∃a C dx fs,x = .ref a/\H2 a=some (.ins C dx fs)/\Cls K C/\qdP K C f/\fs.length<1000/\u D σ (upd H2 a (.ins C dx (qhb f y fs))):=Iff.rfl
theorem qlu:qmV (qqb td ty tv) u D σ H↔tv σ H λv H1=>td σ H1 λx H2=>ty σ H2 λy H3=>∃a H4,x = .ref a/\qrq H3 a y v H4/\u D σ H4:=Iff.rfl
end
def qht (H:Hp)(ths:List Th)(vs:List V):Prop:=ths.length=vs.length/\∀(i:Nat) (th:Th) (v:V),ths[i]?=some th->vs[i]?=some v->ThV H th v
theorem qht.same {H H':Hp}{ths:List Th}{vs:List V}(h:qht H ths vs)(s:qar H H'):qht H' ths vs:=⟨h.1,λi th v h1 h2=>(h.2 i th v h1 h2).same s⟩
theorem qht.nil {H:Hp}:qht H [] []:=⟨rfl,λi th v h1 h2=>by cases h1⟩
theorem qht.snoc {H:Hp}{ths:List Th}{vs:List V}{th:Th}{v:V}(h:qht H ths vs)(h2:ThV H th v):qht H (ths++[th]) (vs++[v]):=by
 refine⟨by rw[ydq,ydq,h.1];rfl,λi t u h3 h4=>?_⟩;by_cases c:i<ths.length
 .rw[yfe c] at h3
  rw[yfe (by rw[<-h.1];exact c)] at h4;exact h.2 i t u h3 h4
 .rw[yfc (by omega)] at h3
  rw[yfc (by rw[<-h.1];omega),<-h.1] at h4;cases e:i-ths.length with
  | zero =>
   rw[e] at h3 h4;cases h3;cases h4;exact h2
  | succ j=>rw[e] at h3;cases h3
theorem qht.cons {H:Hp}{ths:List Th}{vs:List V}{th:Th}(h:qht H (th::ths) vs):∃v us,vs=v::us/\ThV H th v/\qht H ths us:=by
 cases vs with
 | nil=>exact absurd h.1 (by simp)
 | cons v us=>exact⟨v,us,rfl,h.2 0 th v rfl rfl,by have:=h.1;simpa using this,λi t u h1 h2=>h.2 (i+1) t u (by simpa using h1) (by simpa using h2)⟩
theorem qht.empty {H:Hp}{vs:List V}(h:qht H [] vs):vs=[]:=yec.mp h.1.symm
def qnk (ws:List Str)(m:List (Str×List Nat))(ks r:List Str)(ths:List Th):Prop:=ths.length=ks.length/\∀(i:Nat) (k w:Str) (th:Th),ks[i]?=some k->r[i]?=some w->ths[i]?=some th->Thg ws m k w th
end L2
namespace L2
open PySem PySem.Spec PyProof.Rows
def pre:List Str->Str->Str
 | [],w=>w
 | d::ds,w=>d ++ " " ++ pre ds w
theorem qo4 (x y:Str):Tx.sg (x++y)=Tx.sg x++Tx.sg y:=by
 show(x.cps++y.cps).toList=_;simp[Tx.sg]
theorem qmX (d:Str)(ds:List Str)(w:Str):Tx.sg (pre (d::ds) w)=Tx.sg d++32::Tx.sg (pre ds w):=by
 show Tx.sg (d ++ " " ++ pre ds w)=_;rw[qo4,qo4,Tx.lit_space,ydk];rfl
theorem qfO:∀(ds:List Str) (w:Str),(∀d∈ds,32∉Tx.sg d)->Txt.split (pre ds w) " " = ds++Txt.split w " "
 | [],w,_=>rfl
 | d::ds,w,h=>by
  rw[Tx.lit_space,Tx.split_cons (qmX d ds w) (h d ybd),<-Tx.lit_space,qfO ds w λx hx=>h x (ybg _ hx)];rfl
theorem qmY {d w:Str}{ds ks:List Str}(h1:wanted d=some ks)(hd:¬d = "let")(hf:∀x∈d::ds,32∉Tx.sg x)(hw:32∉Tx.sg w)(hl:ds.length+1=ks.length)(hz:(pre (d::ds) w).length<=9000):Prt (pre (d::ds) w) d (ds++[w]) ks:=by
 have e:Txt.split (pre (d::ds) w) " " = d::(ds++[w]):=by
  rw[qfO _ _ hf,Tx.lit_space,Tx.split_nofree hw];rfl
 exact⟨by rw[e];rfl,h1,by rw[if_neg hd,e],by rw[ydq,<-hl];rfl,hz⟩
theorem qq7 {n w:Str}(hn:32∉Tx.sg n)(hz:(pre ["let",n] w).length<=9000):Prt (pre ["let",n] w) "let" [n,w] ["new", "text"]:=by
 have hl:32∉Tx.sg ("let" : Str):=by decide +kernel
 refine⟨?_,by decide +kernel,?_,rfl,hz⟩
 .rw[qfO _ _ λd hd=>?_]
  .rfl
  .rcases ybf.mp hd with rfl | hd
   .exact hl
   .rw[yei.mp hd]
    exact hn
 .rw[if_pos rfl,Tx.lit_space]
  refine Tx.max_two (by decide) ?_ hl hn;rw[qmX,qmX];rfl
theorem qj3 {ws:List Str}{m:List (Str×List Nat)}{k w:Str}{th:Th}(h:Thg ws m k w th):qnk ws m [k] [w] [th]:=by
 refine⟨rfl,λi k' w' th' h1 h2 h3=>?_⟩;cases i with
 | zero=>cases h1;cases h2;cases h3;exact h
 | succ j=>cases h1
theorem qnk.cons {ws:List Str}{m:List (Str×List Nat)}{k w:Str}{th:Th}{ks r:List Str}{ths:List Th}(h:Thg ws m k w th)(t:qnk ws m ks r ths):qnk ws m (k::ks) (w::r) (th::ths):=by
 refine⟨by rw[ycb,ycb,t.1],λi k' w' th' h1 h2 h3=>?_⟩;cases i with
 | zero=>cases h1;cases h2;cases h3;exact h
 | succ j=>exact t.2 j k' w' th' (by simpa using h1) (by simpa using h2) (by simpa using h3)
end L2
namespace L2
open PySem PySem.Spec PyProof.Rows
end L2
namespace L2
open PySem PySem.Spec PyProof.Rows
theorem qbM {K:PySem.W.Frag}{t:Addr}{od:Option Addr}{its:Array Value}{n:Nat}{sl:Array (Option Value)}{ks:List Str}(l:K.lookup t=some ⟨.type "tuple",od,.seq its n,sl⟩)(hs:its.size<=100000)(v:qaN (sV ks) its.toList):∀H,SqT K H t (sV ks) :=
 λH => .inr ⟨_,its,n,l,rfl,rfl,qau hs,v⟩
def qtu (K:PySem.W.Frag)(w:World):List (Str×List Str)->List DictEntry->Prop
 | [],[]=>True
 | (z,ks)::r,e::es=>(∃(tk:Tok) (t:Addr),e=⟨hashStr w z,.str z tk,.ref t⟩/\∀H,SqT K H t (sV ks))/\qtu K w r es
 | _,_=>False
theorem qlP {P:Program}{w:World}{K:PySem.W.Frag}:∀{S:List (Str×List Str)}{es:List DictEntry},qtu K w S es ->
 ∃(kvs:List (Key×V)) (vs:List (Key×Value)),KV kvs vs/\(∀e∈es,∃k,(qaW P w).is k e.key=true/\e.hash=(qaW P w).hash k)/\Pairs (qaW P w) es vs/\vs.map (·.1)=S.map (λp=>Sum.inr p.1) /\
  ∀z ks,S.lookup z=some ks->∃t,qde kvs (Sum.inr z)=some (.ref t)/\∀H,SqT K H t (sV ks)
 | [],[],_=>⟨[],[],.nil,λe h=>(by cases h),.nil,rfl,λz ks h=>by cases h⟩
 | [],_::_,h=>h.elim
 | _::_,[],h=>h.elim
 | (y,us)::S,e::es,h=>by
  obtain⟨⟨tk,t,rfl,ht⟩,hr⟩:=h;obtain⟨kvs,vs,h1,h2,h3,h4,h5⟩:=qlP (P:=P) hr;refine⟨(Sum.inr y,.ref t)::kvs,(Sum.inr y,.ref t)::vs,.cons ⟨rfl,rfl⟩ h1,λe he=>?_,.cons ?_ rfl h3,by rw[ycg,ycg,h4],λz ks hz=>?_⟩
  .rcases ybf.mp he with rfl | he
   .exact⟨Sum.inr y,(by show Value.isStrOf y (.str y tk)=true;simp[Value.isStrOf]),rfl⟩
   .exact h2 e he
  .show Value.isStrOf y (.str y tk)=true
   simp[Value.isStrOf]
  .rw[yfu] at hz
   by_cases c:z=y
   .subst c
    simp at hz;subst hz;exact⟨t,by unfold qde;simp,ht⟩
   .rw[beq_eq_false_iff_ne.mpr c] at hz
    obtain⟨t',e1,e2⟩:=h5 z ks hz;refine⟨t',?_,e2⟩;unfold qde at e1⊢;rw[List.find?_cons_of_neg (by simp only[decide_eq_true_eq];exact λe=>c (Sum.inr.inj e).symm)];exact e1
theorem qsa {P:Program}{w:World}{K:PySem.W.Frag}{aW:Addr}{es:Array DictEntry}{ep:Nat}(l:K.lookup aW=some ⟨.type "dict",none,.dict es ep,#[]⟩)(hn:(aW==sysModules)=false)(h:qtu K w qiP es.toList):Wnt P w K aW:=by
 obtain⟨kvs,vs,h1,h2,h3,h4,h5⟩:=qlP (P:=P) h;refine⟨kvs,⟨hn,_,vs,l,h1,λhp hg=>⟨_,es,ep,hg,⟨rfl,rfl,rfl⟩,rfl,λe he=>h2 e (yey.mpr he),h3,?_⟩⟩,h5⟩;rw[h4];have nd:(qiP.map (·.1)).Nodup:=by decide +kernel
 have:qiP.map (λp=>(Sum.inr p.1:Key))=(qiP.map (·.1)).map Sum.inr:=by rw[ycw];rfl
 rw[this];exact List.Pairwise.map _ (λa b hab e=>hab (Sum.inr.inj e)) nd
end L2
namespace L2
open PySem PySem.Spec PyProof.Rows
section
variable {prog:Program}{w:World}{A:Around}{E:Value->Shared->Prop}{s:Shared}
end
section
variable {X:Cx}{pos:Pos}
def quQ (K:PySem.W.Frag)(n:Nat)(t:TGs):TG:=λv σ H Q=>∃a xs,v = .ref a/\SqL K H a xs/\xs.length=n/\t xs σ H Q
end
end L2
namespace L2
open PySem PySem.Spec PyProof.Rows
section
variable {X:Cx}{K:PySem.W.Frag}
theorem qh3:∀{us:List Value}{ys:List Str},StrsAre us ys->qaN (sV ys) us
 | _,_,.nil => .nil
 | _,_,.cons x t r => .cons ⟨_,rfl⟩ (qh3 r)
def upT (ss:List Str):Prop:=ss.Pairwise λa b=>(strKind.toKeyOrd).kle a.cps.toList b.cps.toList
theorem qp4 {a b:List Str}(p:a.Perm b)(h1:upT a)(h2:upT b):a=b :=
 List.Perm.eq_of_pairwise (le:=λx y:Str=>!strKind.blt y.cps.toList x.cps.toList) (λx y _ _ e1 e2=>by
  have e:x.cps.toList=y.cps.toList:=strKind.total _ _ (by simpa using e2) (by simpa using e1);have e:x.cps=y.cps:=Array.toList_inj.mp e;cases x;cases y;exact congrArg Str.mk e) (h1.imp λh=>by rw[show strKind.blt _ _=false from h];rfl) (h2.imp λh=>by rw[show strKind.blt _ _=false from h];rfl) p
theorem qta:∀{l:List Str},sortedS l=true->upT l:=by
 have go:∀(p:Str) (l:List Str),risingS p l=true->upT (p::l):=by
  intro p l
  induction l generalizing p with
  | nil=>intro _;exact List.pairwise_singleton _ _
  | cons x r ih =>
   intro h;have h:(!ltCps x.cps.toList p.cps.toList&&risingS x r)=true:=h;rw[yab] at h;have hx:=ih x h.2
   have e:(strKind.toKeyOrd).kle p.cps.toList x.cps.toList:=by
    have:=h.1;rw[ltCps_eq] at this;show decide _=false;simpa using this
   refine ybe.mpr ⟨λy hy=>?_,hx⟩;rcases ybf.mp hy with rfl | hy
   .exact e
   .exact KeyOrd.kle_trans e ((ybe.mp hx).1 y hy)
 intro l h;cases l with
 | nil=>exact List.Pairwise.nil
 | cons x r=>exact go x r h
def qpA (K:PySem.W.Frag):List V->Hp->VK->Prop:=λxs H Q=>∃(p:Addr) (ss:List Str),xs=[.ref p]/\SqL K H p (sV ss)/\ss.length<=63/\∀(l:Addr) (ts:List Str),H l=none->ts.Perm ss->upT ts->Q (.ref l) (upd H l (.lst (sV ts)))
theorem qgk (hK:X.K=K):qcl X (.builtin "sorted") (qpA K):=by
 subst hK;intro pins s σ H xs us Q I r h;obtain⟨p,ns,rfl,hq,hl,q⟩:=h;obtain⟨u,rfl,ru⟩:=qcz r;cases ru;obtain⟨its,rv,pl,hz⟩:=I.list hq;have hi:StrsAre its ns:=qfb rv;have hle:=StrsAre.len hi;refine sorted_strs pl.isList hi (by omega) λout ms a1 a2 a3=>?_;obtain⟨e,he⟩:=sortedAll_at s.heap its out;have hn:H (s.heap.objs.size+1)=none:=I.hok.fresh (ycx _);have e4:=a2.length_eq;refine⟨.ref _,_,I.laid (a:=s.heap.objs.size+1) (o := .lst (sV ms)) (t':=s.toks) (λb o z=>sortedAll_old z) (ycx _) ⟨by rw[sV,ycd];exact ybn (show ms.length<=63 by omega) (by decide),out.toList,e,qh3 a1,by rw[yfy];exact he⟩,rfl,q _ ms hn a2 (qta a3)⟩
def qsH:List V->Hp->VK->Prop:=λxs H Q=>∃n:Nat,xs=[.str (Str.ofString (toString (n:Int)))]/\n<=1000/\Q (.int n) H
theorem qdJ:qcl X (.type "int") qsH:=by
 intro pins s σ H xs us Q I r h;obtain⟨n,rfl,hn,q⟩:=h;obtain⟨u,rfl,t,rfl⟩:=qcz r;exact PySem.W.KIN.call_num (by omega) (by omega) ⟨.int n,H,I.tok _,⟨_,rfl⟩,q⟩
end
end L2
namespace L2
open PySem PySem.Spec PyProof.Rows
section
variable {K:PySem.W.Frag}{g:TG}{σ:L2.St}{H:Hp}{a:Addr}{nt:Nat}{caps:List Nat}{tt:TT}{te:TE}{Q:VK}
theorem ql0 {α:Type}{ks:List α}(src:α->V)(f:α->V)(hq:H a=some (.lst (ks.map src)))(hz:ks.length<=100000)
 (hs:∀k∈ks,∀H1,qar H H1->∀(R:VK) (R':Hp->Prop),(∀H2,qar H1 H2->R (f k) H2)->g (src k) (qa2 nt caps σ) H1 λσ4 H4=>tt σ4 H4 λb H5=>if b=true then te σ4 H5 R else R' H5)
 (hd:∀H1 p,qar H H1->H1 p=none->Q (.ref p) (upd H1 p (.lst (ks.map f)))):qcH (Itl K a) nt caps g tt te σ H Q:=by
 refine qfL (xs:=ks.map src) (λi ys H1=>qar H H1/\ys=(ks.take i).map f) ⟨qar.refl _,rfl⟩ (by rw[ycd];exact ybn hz (by decide)) (λi ys H1 hi h=>⟨SqL.of (h.1 _ _ hq),by rw[h.2,ycd,yfb];omega⟩) (λi x ys H1 hx h R R' r1 r2=>?_) λys H1 h p hp=>?_
 .obtain⟨s1,rfl⟩:=h
  rw[ycp] at hx;cases ek:ks[i]? with
  | none=>rw[ek] at hx;cases hx
  | some k =>
   rw[ek] at hx;cases hx;refine hs k (ycl ek) H1 s1 R R' λH2 s2=>r1 _ _ ⟨s1.trans s2,?_⟩;rw[ygq,ek,ycv];rfl
 .obtain⟨s1,rfl⟩:=h
  rw[ycd,ydi];exact hd H1 p s1 hp
def LsS (H:Hp)(LL:List (List Str))(ps:List Addr):Prop:=ps.length=LL.length/\∀(i:Nat) (r:Addr) (L:List Str),ps[i]?=some r->LL[i]?=some L->H r=some (.lst (sV L))
theorem LsS.mono {H H':Hp}{LL:List (List Str)}{ps:List Addr}(h:LsS H LL ps)(s:qar H H'):LsS H' LL ps:=⟨h.1,λi r L e1 e2=>s _ _ (h.2 i r L e1 e2)⟩
theorem LsS.snoc {H:Hp}{LL:List (List Str)}{ps:List Addr}{r:Addr}{L:List Str}(h:LsS H LL ps)(hr:H r=some (.lst (sV L))):LsS H (LL++[L]) (ps++[r]):=by
 refine⟨by rw[ydq,ydq,h.1];rfl,λi r' L' e1 e2=>?_⟩;rcases yco i ps.length with z | z | z
 .rw[yfe z] at e1
  rw[yfe (by rw[<-h.1];exact z)] at e2;exact h.2 i r' L' e1 e2
 .subst z
  rw[yfc (yaz _),ygf] at e1;rw[h.1,yfc (yaz _),ygf] at e2;cases e1;cases e2;exact hr
 .rw[yek (by rw[ydq,yfn];omega)] at e1
  cases e1
theorem qti {α:Type}{ks:List α}(src:α->V)(f:α->List Str)(hq:H a=some (.lst (ks.map src)))(hz:ks.length<=100000)
 (hs:∀k∈ks,∀H1,qar H H1->∀(R:VK) (R':Hp->Prop),(∀r H2,qar H1 H2->H2 r=some (.lst (sV (f k)))->R (.ref r) H2)->g (src k) (qa2 nt caps σ) H1 λσ4 H4=>tt σ4 H4 λb H5=>if b=true then te σ4 H5 R else R' H5)
 (hd:∀H1 p ps,qar H H1->H1 p=none->LsS H1 (ks.map f) ps->Q (.ref p) (upd H1 p (.lst (ps.map V.ref)))):qcH (Itl K a) nt caps g tt te σ H Q:=by
 refine qfL (xs:=ks.map src) (λi ys H1=>∃ps,qar H H1/\ys=ps.map V.ref/\LsS H1 ((ks.take i).map f) ps) ⟨[],qar.refl _,rfl,rfl,λi r L e1 e2=>by cases e1⟩ (by rw[ycd];exact ybn hz (by decide)) (λi ys H1 hi h=>?_) (λi x ys H1 hx h R R' r1 r2=>?_) λys H1 h p hp=>?_
 .obtain⟨ps,s1,rfl,l1⟩:=h
  exact⟨SqL.of (s1 _ _ hq),by rw[ycd,l1.1,ycd,yfb];omega⟩
 .obtain⟨ps,s1,rfl,l1⟩:=h
  rw[ycp] at hx;cases ek:ks[i]? with
  | none=>rw[ek] at hx;cases hx
  | some k =>
   rw[ek] at hx;cases hx;refine hs k (ycl ek) H1 s1 R R' λr H2 s2 hr=>r1 _ _ ⟨ps++[r],s1.trans s2,by rw[ycv];rfl,?_⟩;rw[ygq,ek,ycv];exact(l1.mono s2).snoc hr
 .obtain⟨ps,s1,rfl,l1⟩:=h
  rw[ycd,ydi] at l1;exact hd H1 p ps s1 hp l1
end
end L2
open L2 in
local macro_rules | `(tactic| walk_at "rd")=>do
 let xs<-("qnO qmA qnE qj7 qop qp1 ite_true ite_false qlF qt5 qt8 qq3 qsR qh4 qug tC tOp tUn rU qrF tB qum tOr qur qsQ quW qrV qiD qtw qn6 qsH qpA tCB quE quD qpw tBM quH qpe qk6 qs7 qqD qq0 qpJ qu2 quo qqb qsK qtZ qom qtA qp8 qoG qn9 tSl qkY qsn quy quQ qua qu4 qqC qp6 qs1 qrG qun qrJ qrl qoz qoJ qoi qlu quc quL qlz qtl qrL qqZ qpU quB tIf quM qqT qto qsg qr6 qsU qo3 qoU qpO qsk qrx qrK qr7 qs6 qsX qrT qs9 quh qt0 qtX qt4 quk qud qtW qtG quj qtY quJ qjn qa2 yfl List.replicate_zero ycg yfi Option.join_some rIn yed yfs List.nil_append ygv ygu List.set_cons_zero List.set_cons_succ Option.some.injEq List.cons.injEq V.int.injEq V.bl.injEq V.ref.injEq V.ty.injEq V.str.injEq and_true true_and exists_eq_left exists_eq_left' exists_and_left exists_eq' exists_eq reduceCtorEq false_and exists_false or_false false_or decide_eq_true_eq yay Bool.not_eq_eq_eq_not Bool.not_true decide_eq_false_iff_not".splitOn " ").toArray.mapM fun n=>`(Lean.Parser.Tactic.simpLemma| $(Lean.mkIdent n.toName):ident)
 `(tactic| simp only [$xs,*])
namespace Zk54
set_option maxHeartbeats 4000000
open PySem L2 PyProof.Rows
def top (i:Nat):Stmt:=PySem.Challenge.pw_allhits_k54_whole_votes_by_text.main.body.getD i (.Pass ⟨0,0,0,0⟩)
structure Txt (mg:Str->Option Value):Prop where
 n_isinstance:mg "isinstance" = none
 n_int:mg "int" = none
 n_bool:mg "bool" = none
 n_len:mg "len" = none
 n_sum:mg "sum" = none
 n_sorted:mg "sorted" = none
 n_set:mg "set" = none
 n_range:mg "range" = none
 n_list:mg "list" = none
 n_str:mg "str" = none
 n_all:mg "all" = none
 n_reversed:mg "reversed" = none
 n_enumerate:mg "enumerate" = none
 n_max:mg "max" = none
 n_min:mg "min" = none
 n_zip:mg "zip" = none
 c_MOST_SETS:∃t,mg "MOST_SETS" = some (.int 70 t)
 c_MOST_LETTERS:∃t,mg "MOST_LETTERS" = some (.int 8 t)
 c_MOST_NAMES:∃t,mg "MOST_NAMES" = some (.int 8 t)
 c_NO_SETS:∃t,mg "NO_SETS" = some (.str "none" t)
 c_NO_NAMES:∃t,mg "NO_NAMES" = some (.str "-" t)
 c_MOST_WEIGHT:∃t,mg "MOST_WEIGHT" = some (.int 5 t)
 c_MOST_VOTERS:∃t,mg "MOST_VOTERS" = some (.int 5 t)
 c_MOST_KEPT:∃t,mg "MOST_KEPT" = some (.int 20 t)
theorem fsc {N P:List Str}{sc:Scope}(h1:sc.kind = .function:=by rfl)(h2:sc.isCoroutine=false:=by rfl)(h3:sc.isGenerator=false:=by rfl)(h4:N.Nodup:=by decide +kernel)(h5:N.take P.length=P:=by rfl)(h6:∀x∈P,sc.names.lookup x=some .local\/sc.names.lookup x=some .cell:=by decide +kernel)(h7:∀y∈sc.names,y.2 ≠ .free:=by decide +kernel):qal N P sc:=⟨h1,h2,h3,h4,h5,h6,h7⟩
theorem pec {X:Cx}{x:Str}{p pos:Pos}{e:Expr}{es:List Expr}{t:TA}{k j:Nat}{ps:List Str}{sp:Sp}{f:Addr}{fd:FuncData}(C:Cal X.prog X.w X.K X.mg X.base x k ps sp f fd)(hr:qdE j X.A)(ha:PA X (e::es) t)(hj:k<=j:=by decide)(hg:Gl X x:=by rfl)(hdb:(x==("__debug__" : Str))=false:=by decide)
 (he:starEach (e::es) X.env=(false,eval e X.env)::starEach es X.env:=by rfl)(hpl:(backTo pos (starEach es X.env)).any (·.1)=false:=by rfl):PE X (.Call (.Name x p) (e::es) [] pos) (qn6 sp [] E0 t):=qoQ C hr hj hg ha hdb he hpl
section
variable {P:Program}{w:World}{K:W.Frag}{mg:Str->Option Value}{base:Heap}
abbrev qea:Stmt:=top 9
theorem qfh:qal ["thing"] ["thing"] (qaf qea):=fsc
/-- the class and the table of the text -/
structure Xt (P:Program)(w:World)(K:W.Frag)(mg:Str->Option Value)(cD aW:Addr):Prop where
 gDesk:mg "Desk" = some (.ref cD)
 cl:Cls K cD
 nw:qdP K cD "words"
 nk:qdP K cD "kept"
 gW:mg "WANTED" = some (.ref aW)
 wn:Wnt P w K aW
def qlR:Sp:=sp1 λx H Q=>∃t,qln H x=some t/\Q (.bl (qng t "int" && !qng t "bool")) H
theorem qoa {t:String}(h:t ≠ "int"):(qng t "int" && !qng t "bool")=false:=by
 have e:(t == "int")=false:=by simpa using h
 unfold qng;rw[e];cases(t == "bool")<;>rfl
theorem qiI {f:Addr}{fd:FuncData}(F:Fun K "is_whole" "is_whole" qea f fd)(T:Txt mg)  : qaM P w K mg base CX0 1 f fd ["thing"] qlR:=by
 have sc:=qfh;refine F.ok qfh (λvs H Q E h=>by obtain⟨_,rfl,_⟩:=h;rfl) (λcdv A outer s H vs Q E hr h=>?_);obtain⟨x0,rfl,h⟩:=h;refine⟨_,(qad (qah (qih (qas qbL (by rfl) T.n_isinstance PyProof.Rows.boot_isinstance (qaa (pv 0) (qaa (qfJ (v := .ty "int") (by rfl) T.n_int PyProof.Rows.boot_int rfl) qac))) (qju (qsv (qas qbL (by rfl) T.n_isinstance PyProof.Rows.boot_isinstance (qaa (pv 0) (qaa (qfJ (v := .ty "bool") (by rfl) T.n_bool PyProof.Rows.boot_bool rfl) qac)))))))),?_⟩;refine rdg (σ':=[some x0]) rfl ?_;obtain⟨t,hk,q⟩:=h;walk_at "rd";refine⟨x0, "int",⟨rfl,rfl⟩,t,hk,by decide,?_⟩;split
 .rename_i h1
  refine⟨x0, "bool",⟨rfl,rfl⟩,t,hk,by decide,?_⟩;rw[h1,yfw] at q;exact q
 .rename_i h1
  have h2:qng t "int" = false:=by simpa using h1
  rw[h2,yeu] at q;exact q
abbrev qcK:Stmt:=top 85
theorem qdF:qal ["_law_script", "_law_amount", "_law_cells_here", "_law_number"] ["_law_script", "_law_amount"] (qaf qcK):=fsc
/-- the cells of a script,as a function -/
def qk2:Nat->Int->List Nat->List Nat
 | 0,_,cs=>cs
 | k+1,z,cs=>qk2 k ((z*z+48271*(cs.length:Int)+11)%2147483647) (cs++[((z*z+48271*(cs.length:Int)+11)%2147483647).toNat])
def qrs (n:Nat)(ns:List Int):List Nat:=qk2 (n-((ns.take n).map λi=>(i%10^40).toNat).length) (1+(nI ((ns.take n).map λi=>(i%10^40).toNat)).sum%2147483647) ((ns.take n).map λi=>(i%10^40).toNat)
def qgw (K:W.Frag):Sp:=sp2 λx y H Q=>∃(a:Addr) (ns:List Int) (n:Nat),x = .ref a/\SqL K H a (ns.map V.int)/\ns.length<=63/\y = .int n/\n<=63/\∀(p:Addr) (cs:List Nat) (H':Hp),H p=none->qar H H'->H' p=some (.lst (nV cs))->cs.length=n->cs=qrs n ns->Q (.ref p) H'
theorem qhf {f:Addr}{fd:FuncData}(F:Fun K "_law_cells" "_law_cells" qcK f fd)(T:Txt mg)  : qaM P w K mg base CX0 1 f fd ["_law_script", "_law_amount"] (qgw K):=by
 have sc:=qdF;refine F.ok qdF (λvs H Q E h=>by obtain⟨_,_,rfl,_⟩:=h;rfl) (λcdv A outer s H vs Q E hr h=>?_);obtain⟨x0,x1,rfl,h⟩:=h
 refine⟨_,(qab (qbs (i:=2) sc.nd rfl rfl (by rfl) (N:=["_law_cell"]) (nt:=1) (caps:=[]) qax rfl (qaE (qaS (qkF (K:=K) rfl) (pv 0) qbm (qa7 (pv 1)))) (λ_ _ _ _ _=>(qam (i:=0) (show List.Nodup (α:=Str) ["_law_cell"] from by decide +kernel) rfl (Or.inl rfl))) qaz (λ_ _ _ _ _=>qaD) (λ_ _ _ _ _=>(qan qa3 (pv 0) (qan qsJ qae qae))))
   (qab (qat (i:=3) sc.nd rfl (Or.inl rfl) (qan qbf qae (qan qa3 (qas (qch (K:=K) rfl rfl) (by rfl) T.n_sum PyProof.Rows.boot_sum (qaa (pv 2) qac)) qae)))
   (qab (qoI PassesOwn.never (qai qoA (qas (qaB (K:=K) rfl) (by rfl) T.n_len PySem.boot_len (qaa (pv 2) qac)) (pv 1) (qao _)) (qab (qat (i:=3) sc.nd rfl (Or.inl rfl) (qan qa3 (qan qbf (qan qbf (qan qgh (pv 3) (pv 3)) (qan qgh qae (qas (qaB (K:=K) rfl) (by rfl) T.n_len PySem.boot_len (qaa (pv 2) qac)))) qae) qae))
   (qad (qco (qbj ygw ygx ygy qbI (pv 2) (qaa (pv 3) qac))))))
   (qad (qah (pv 2)))))),?_⟩
 refine rdg (σ':=[some x0,some x1,none,none]) rfl ?_;obtain⟨a,ns,n,rfl,hS,hl,rfl,hn,q⟩:=h;walk_at "rd";have eF:∀F,F=qrs n ns->qk2 (n-((ns.take n).map λi=>(i%10^40).toNat).length) (1+(nI ((ns.take n).map λi=>(i%10^40).toNat)).sum%2147483647) ((ns.take n).map λi=>(i%10^40).toNat)=F:=λF e=>e.symm;refine⟨a,_,rfl,hS,λp1 hp1=>?_⟩;rw[qeZ,<-ygz];have ln:(ns.take n).length<=n:=by rw[yfb];omega
 generalize qrs n ns=F at eF q;have eF:=eF F rfl;generalize ns.take n=ks at ln eF⊢;generalize g1:upd H p1 _=G1;have a1:=qap g1;have t1:=qaj g1 hp1;refine⟨p1,rfl,⟨_,SqL.of a1⟩,?_⟩;refine ql4 (fs:=ks.map V.int) (λ_=>true) (λv=>match v with | .int i => .int ((i%10^40).toNat:Nat) | _ => .non) (SqL.of a1) (by rw[ycd];omega) (λx hx H1 sm R R' r1 r2=>?_) λG2 p2 t2 hp2=>?_
 . obtain⟨z,_,rfl⟩:=ybu.mp hx
   (try walk_at "rd")
   refine⟨qaK (by decide) (by decide) (by decide) (by decide),by decide,?_⟩
   have e:z%10^Int.toNat 40=(((z%10^40).toNat:Nat):Int):=by
     have:=yha z (show(10:Int)^40≠0 by decide);rw[yhb this];rfl
   rw[e];exact r1 rfl _ (qar.refl _)
 have e:((ks.map V.int).filter λ_=>true).map (λv=>match v with | .int i=>V.int ((i%10^40).toNat:Nat) | _ => .non)=nV (ks.map λi=>(i%10^40).toNat):=by
   rw[ygd.mpr λ_ _=>rfl,nV,nI,ycw,ycw,ycw];rfl
 rw[e];have lc:(ks.map λi=>(i%10^40).toNat).length<=n:=by rw[ycd];exact ln
 generalize ks.map (λi=>(i%10^40).toNat)=cs at lc eF⊢;generalize g2:upd G2 p2 _=G3;have a2:=qap g2;have n2:=qaC (t1.trans t2) hp2;have t3:=(t1.trans t2).trans (qaj g2 hp2);refine⟨p2,rfl,nI cs,SqL.of a2,by decide,?_⟩;have z0:=yha (nI cs).sum (show(2147483647:Int)≠0 by decide);have z1:=yhc (nI cs).sum (show(0:Int)<2147483647 by decide);refine qtg (λk σ H4=>∃(cs:List Nat) (z:Int),σ=[some (.ref a),some (.int n),some (.ref p2),some (.int z)]/\0<=z/\z<=2147483647/\H4=upd G3 p2 (.lst (nV cs))/\cs.length+k=n/\qk2 k z cs=F) (n-cs.length) ⟨cs,_,rfl,by omega,by omega,qe2 a2,by omega,eF⟩ ?_;rintro k σ H4 ⟨cs,z,rfl,h0,h1,rfl,hk,hF⟩ T hT
 (try walk_at "rd")
 refine⟨_,.inl (SqL.of qag),?_⟩;rw[qaP];refine qqz (λhc=>hT _ λN hN=>?_) λhc=>?_
 . (try walk_at "rd")
   refine⟨.inl ⟨by omega,by omega⟩,_,.inl (SqL.of qag),?_⟩;rw[qaP];have y0:=yha (z*z+48271*(cs.length:Int)+11) (show(2147483647:Int)≠0 by decide);have y1:=yhc (z*z+48271*(cs.length:Int)+11) (show(0:Int)<2147483647 by decide);obtain⟨k,rfl⟩:∃k',k=k'+1:=⟨k-1,by omega⟩;have hF:qk2 k ((z*z+48271*(cs.length:Int)+11)%2147483647) (cs++[((z*z+48271*(cs.length:Int)+11)%2147483647).toNat])=F:=hF;generalize (z*z+48271*(cs.length:Int)+11)%2147483647=y at y0 y1 hF⊢;obtain⟨w,rfl⟩:=Int.eq_ofNat_of_zero_le y0;refine⟨.inl ⟨by decide,by decide⟩,by decide,qcv (by(try rw[qaP]);omega),?_⟩;rw[qfc];exact hN k _ _ (by omega) ⟨cs++[w],w,rfl,by omega,by omega,rfl,by simp;omega,hF⟩
 . (try walk_at "rd")
   obtain rfl:k=0:=by omega
   exact q p2 cs _ n2 (t3.upd n2) qag (by omega) hF
abbrev qcp:Stmt:=top 86
theorem qdg:qal ["_law_cells_here", "_law_many", "_law_size", "_law_found", "_law_cell", "_law_one"] ["_law_cells_here", "_law_many"] (qaf qcp):=fsc
def qjL (K:W.Frag):Sp:=sp2 λx y H Q=>∃(p:Addr) (cs:List Nat) (m:Nat),x = .ref p/\SqL K H p (nV cs)/\cs.length<=63/\y = .int m/\m<=8 /\
 ∀(p':Addr) (fs:List Nat) (H':Hp),H p'=none->qar H H'->H' p'=some (.lst (nV fs))->fs.Pairwise (· < ·)->(∀b∈fs,b<2^m)->fs.length<=63->Q (.ref p') H'
theorem qf6 {f:Addr}{fd:FuncData}(F:Fun K "_law_family" "_law_family" qcp f fd)(T:Txt mg)  : qaM P w K mg base CX0 1 f fd ["_law_cells_here", "_law_many"] (qjL K):=by
 have sc:=qdg;refine F.ok qdg (λvs H Q E h=>by obtain⟨_,_,rfl,_⟩:=h;rfl) (λcdv A outer s H vs Q E hr h=>?_);obtain⟨x0,x1,rfl,h⟩:=h
 refine⟨_,(qab (qat (i:=2) sc.nd rfl (Or.inl rfl) (qan qa0 qae (pv 1)))
   (qab (qat (i:=3) sc.nd rfl (Or.inl rfl) (qaJ qac))
   (qab (qaZ PassesOwn.never rfl (qaE (pv 0)) (qam (i:=4) sc.nd rfl (Or.inl rfl)) (qab (qat (i:=5) sc.nd rfl (Or.inl rfl) (qan qa3 (pv 4) (pv 2)))
   (qab (qaA (qai (qav (K:=K) rfl hr.units0) (qan qa3 (qan qbd (pv 4) (pv 2)) qae) qae (qao _)) (qad (qat (i:=5) sc.nd rfl (Or.inl rfl) (qan qce (pv 5) (qan qa3 (qan qbd (pv 4) (qan qgh qae (pv 2))) (pv 2))))) qak)
   (qab (qaA (PW.pt (qcB (qai (qav (K:=K) rfl hr.units0) (qan qa3 (qan qbd (pv 4) (pv 2)) qae) qae (qao _)) (qbO (qai qn8 (pv 1) qae (qao _))))) (qad (qat (i:=5) sc.nd rfl (Or.inl rfl) (qan qed (qan qa0 qae (qan qa3 (pv 4) (pv 1))) (qan qa0 qae (qan qa3 (qan qbd (pv 4) qae) (pv 1)))))) qak)
   (qad (qco (qbj ygw ygx ygy qbI (pv 3) (qaa (pv 5) qac))))))))
   (qad (qah (qas (qbr (P:=P) (w:=w) (K:=K) rfl rfl rfl rfl) (by rfl) T.n_sorted PyProof.Rows.boot_sorted (qaa (qba (qdM (P:=P) (w:=w) (K:=K) rfl rfl rfl rfl) (by rfl) T.n_set PyProof.Rows.boot_set (qaa (pv 3) qac)) qac))))))),?_⟩
 refine rdg (σ':=[some x0,some x1,none,none,none,none]) rfl ?_;obtain⟨p,cs,m,rfl,hq,hl,rfl,hm,q⟩:=h;walk_at "rd";have pp:=yah m;have p8:2^m<=256:=yaf (n:=2) (by decide) hm;have big:(256:Int)*3<2^200:=by decide
 rw[qaQ];refine⟨qaK (by omega) (by omega) (by decide) (by decide),qau (by simp),λp0 hp0=>?_⟩;generalize g0:upd H p0 _=G0;have a0:=qap g0;have t0:=qaj g0 hp0;refine⟨⟨_,t0.seq hq⟩,?_⟩;refine qhF (fs:=cs) (λi σ H3=>∃v1 v2 fs,σ=[some (.ref p),some (.int m),some (.int (2^m:Nat)),some (.ref p0),v1,v2]/\H3=upd G0 p0 (.lst (nV fs))/\fs.length=i/\∀b∈fs,b<2^m) ⟨none,none,[],rfl,qe2 a0,rfl,λb hb=>by cases hb⟩ ?_ ?_ ?_
 . rintro i σ H3 hi ⟨v1,v2,fs,rfl,rfl,_⟩
   exact(t0.upd hp0).seq hq
 . rintro i c σ H3 hc ⟨v1,v2,fs,rfl,rfl,hlen,hb⟩ N0 hN0
   have hi:=(ycm.mp hc).1
   (try walk_at "rd")
   have e1:(c:Int)%((2^m:Nat):Int)=((c%2^m:Nat):Int):=rfl;have w1:c%2^m<2^m:=yee _ pp;rw[e1];generalize c%2^m=one at w1⊢;refine⟨by omega,?_⟩;refine qbb (λσ' H2=>∃b:Nat,b<2^m/\σ'=[some (.ref p),some (.int m),some (.int (2^m:Nat)),some (.ref p0),some (.int (c:Nat)),some (.int (b:Nat))]/\H2=upd G0 p0 (.lst (nV fs))) ?_ λN hN=>?_;rotate_left
   . (try walk_at "rd")
     refine⟨⟨by omega,by omega⟩,by decide,qqz (λh1=>?_) λh1=>hN _ _ ⟨one,w1,rfl,rfl⟩⟩
     have e3:(c:Int)/(3*((2^m:Nat):Int))%((2^m:Nat):Int)=((c/(3*2^m)%2^m:Nat):Int):=by
       rw[show(3:Int)*((2^m:Nat):Int)=((3*2^m:Nat):Int) by omega];rfl
     rw[e3,qdo];exact⟨.inl ⟨by decide,by decide⟩,⟨by omega,by omega⟩,by omega,hN _ _ ⟨_,ybk Nat.and_le_left w1,rfl,rfl⟩⟩
   rintro σ' H2 ⟨one,w1,rfl,rfl⟩;refine qbb (λσ' H2=>∃b:Nat,b<2^m/\σ'=[some (.ref p),some (.int m),some (.int (2^m:Nat)),some (.ref p0),some (.int (c:Nat)),some (.int (b:Nat))]/\H2=upd G0 p0 (.lst (nV fs))) ?_ λN hN=>?_;rotate_left
   . (try walk_at "rd")
     refine⟨⟨by omega,by omega⟩,by decide,qqz (λh1=>qqz (λh2=>?_) λh2=>hN _ _ ⟨one,w1,rfl,rfl⟩) λh1=>hN _ _ ⟨one,w1,rfl,rfl⟩⟩;have m0:0<m:=by omega
     have e4:(c:Int)%(m:Int)=((c%m:Nat):Int):=rfl;have e5:(c:Int)/8%(m:Int)=((c/8%m:Nat):Int):=rfl;have w4:c%m<m:=yee _ m0;have w5:c/8%m<m:=yee _ m0;rw[e4,e5,qaQ,qaQ,qcb];refine⟨by omega,qaK (by omega) (by omega) (by decide) (by decide),⟨by decide,by decide⟩,by omega,qaK (by omega) (by omega) (by decide) (by decide),hN _ _ ⟨_,?_,rfl,rfl⟩⟩;exact ybr (ybs (by decide) w4) (ybs (by decide) w5)
   rintro σ' H2 ⟨one,w1,rfl,rfl⟩
   (try walk_at "rd")
   refine⟨qcv (by rw[qaP];omega),hN0 _ _ ⟨_,_,fs++[one],rfl,by rw[qfc],by simp[hlen],λb hb'=>?_⟩⟩;rcases yav.mp hb' with z | z
   . exact hb b z
   . rw[show b=one by simpa using z];exact w1
 . rintro σ H3 ⟨v1,v2,fs,rfl,rfl,hlen,hb⟩
   (try walk_at "rd")
   have t1:qar H (upd G0 p0 (.lst (nV fs))):=t0.upd hp0;refine⟨p0,_,rfl,SqL.of qag,by simp;omega,λp6 hp6=>?_⟩;generalize g6:upd _ p6 _=G6;have a6:=qap g6;have t6:=t1.trans (qaj g6 hp6);refine⟨p6,_,rfl,.inr a6,ybn (qcg _) (by simp;omega),λp7 ms hp7 m1 m2=>?_⟩;rw[qcc m1 m2];exact q p7 (sd fs) _ (qaC t6 hp7) (t6.trans (qar.new hp7)) qag (qgY fs) (λb hb2=>hb b (qgb.mp hb2)) (qnp fs (by omega))
abbrev qcP:Stmt:=top 87
theorem qdY:qal ["_law_script", "_law_bound", "_law_cells_here", "_law_many", "_law_amount"] ["_law_script", "_law_bound"] (qaf qcP):=fsc
def qm7 (K:W.Frag):Sp:=sp2 λx y H Q=>∃(a:Addr) (ns:List Int) (n:Nat),x = .ref a/\SqL K H a (ns.map V.int)/\ns.length<=63/\y = .int n/\n<=8 /\
 ∀(t p:Addr) (m:Nat) (fs:List Nat) (H':Hp),m<=n->H p=none->qar H H'->H' t=some (.tup [.int m,.ref p])->H' p=some (.lst (nV fs))->fs.Pairwise (· < ·)->(∀b∈fs,b<2^m)->fs.length<=63->Q (.ref t) H'
theorem qgU {f:Addr}{fd:FuncData}(F:Fun K "_law_drawn" "_law_drawn" qcP f fd)(T:Txt mg){f_22:Addr}{fd_22:FuncData}(C_22:Cal P w K mg base "_law_cells" 1 ["_law_script", "_law_amount"] (qgw K) f_22 fd_22){f_15:Addr}{fd_15:FuncData}(C_15:Cal P w K mg base "_law_family" 1 ["_law_cells_here", "_law_many"] (qjL K) f_15 fd_15):qaM P w K mg base CX0 2 f fd ["_law_script", "_law_bound"] (qm7 K):=by
 have sc:=qdY;refine F.ok qdY (λvs H Q E h=>by obtain⟨_,_,rfl,_⟩:=h;rfl) (λcdv A outer s H vs Q E hr h=>?_);obtain⟨x0,x1,rfl,h⟩:=h
 refine⟨_,(qab (qat (i:=2) sc.nd rfl (Or.inl rfl) (pec C_22 hr (qaa (pv 0) (qaa qae qac))))
   (qab (qat (i:=3) sc.nd rfl (Or.inl rfl) (qan qa3 (qaw (qaO (K:=K) rfl) (pv 2) qae (λ_ _=>rfl)) (qan qbf (pv 1) qae)))
   (qab (qat (i:=4) sc.nd rfl (Or.inl rfl) (qan qa3 (qaw (qaO (K:=K) rfl) (pv 2) qae (λ_ _=>rfl)) qae))
   (qab (qaA (qai (qav (K:=K) rfl hr.units0) (qan qa3 (qan qbd (qaw (qaO (K:=K) rfl) (pv 2) qae (λ_ _=>rfl)) qae) qae) qae (qao _)) (qad (qat (i:=4) sc.nd rfl (Or.inl rfl) qae)) qak)
   (qad (qah (qb9 (qaa (pv 3) (qaa (pec C_15 hr (qaa (qaS (qkF (K:=K) rfl) (pv 2) (qa7 qae) (qa7 (qan qbf qae (pv 4)))) (qaa (pv 3) qac))) qac))))))))),?_⟩
 refine rdg (σ':=[some x0,some x1,none,none,none]) rfl ?_;obtain⟨a,ns,n,rfl,hS,hl,rfl,hn,q⟩:=h;walk_at "rd";refine⟨_,_,rfl,a,ns,63,rfl,hS,hl,rfl,by omega,λp cs H1 hp s1 f1 lc _=>?_⟩;have i0:cs[0]?=some cs[0]:=yck (by omega);have i1:cs[1]?=some cs[1]:=yck (by omega);generalize cs[0]=c0 at i0;generalize cs[1]=c1 at i1;refine qaF (SqL.of f1) (qd1 i0) ?_
 (try walk_at "rd")
 have e0:(c0:Int)%((n:Int)+1)=((c0%(n+1):Nat):Int):=rfl;have w0:c0%(n+1)<=n:=by have:=yee c0 (show 0<n+1 by omega);omega
 rw[e0];generalize c0%(n+1)=m at w0⊢;refine⟨by omega,qaF (SqL.of f1) (qd1 i1) ?_⟩
 (try walk_at "rd")
 have e1:(c1:Int)%9=((c1%9:Nat):Int):=rfl;rw[e1];refine⟨by decide,?_⟩;refine qbb (λσ' H2=>∃k:Nat,k<=60/\σ'=[some (.ref a),some (.int n),some (.ref p),some (.int m),some (.int (k:Nat))]/\H2=H1) ?_ λN hN=>?_;rotate_left
 . (try walk_at "rd")
   refine qaF (SqL.of f1) (qd1 i1) ?_
   (try walk_at "rd")
   exact⟨⟨by decide,by decide⟩,by decide,qqz (λh1=>hN _ _ ⟨25,by omega,rfl,rfl⟩) λh1=>hN _ _ ⟨_,by omega,rfl,rfl⟩⟩
 rintro σ' H2 ⟨k,hk,rfl,rfl⟩
 (try walk_at "rd")
 refine⟨p,_,rfl,SqL.of f1,λp2 hp2=>?_⟩
 have e3:qkt (nV cs) (some 3) (some (3+(k:Int)))=nV ((cs.drop 3).take k):=by
   rw[show(3:Int)+(k:Int)=((3+k:Nat):Int) by omega,show(3:Int)=((3:Nat):Int) from rfl,qpT,nV,nV,nI,nI,ygz,yhd,ygz,yhd,show 3+k-3=k by omega]
 rw[e3];generalize g2:upd H2 p2 _=G2;have a2:=qap g2;have t2:=s1.trans (qaj g2 hp2);refine⟨_,_,rfl,p2,_,m,rfl,SqL.of a2,by rw[yfb];omega,rfl,by omega,λp3 fs G3 hp3 t3 a3 hr hb h63=>?_⟩;refine⟨qau (by simp),λt ht=>?_⟩;have n3:=qaC t2 hp3;exact q t p3 m fs _ w0 n3 ((t2.trans t3).trans (qar.new ht)) qag (qaj rfl ht _ _ a3) hr hb h63
abbrev qc5:Stmt:=top 88
theorem qdN:qal ["_law_cell", "_law_many", "_law_letters", "_law_size", "_law_at", "_law_base", "_law_words_here", "_law_stem", "_law_k", "_law_sign"] ["_law_cell", "_law_many"] (qaf qc5):=fsc
theorem qo8 {n:Nat}{G:Nat->Str}(hn:n<=8)(h:∀k,k<n->Tx.Wd (G k))(h1:∀i j,i<j->j<n->G i≠G j)(h2:∀k,k<n->G k ≠ "none"):Tx.Wds ((List.range n).map G):=by
 refine⟨by simpa using hn,?_,λw hw=>?_,λhw=>?_⟩
 .unfold List.Nodup
  rw[ybw];exact(ybi).imp_of_mem λ_ hb hlt=>h1 _ _ hlt (ybj.mp hb)
 .obtain⟨k,hk,rfl⟩:=ybu.mp hw
  exact h k (ybj.mp hk)
 .obtain⟨k,hk,e⟩:=ybu.mp hw
  exact h2 k (ybj.mp hk) e
theorem qut {ys:List Str}(h:∀y∈ys,∃c,y=⟨#[c]⟩/\c<=109):∀c∈Tx.sg (_root_.PySem.Txt.join ("" : Str) ys),c<=109:=λc hc=>by
 rw[qdZ] at hc;obtain⟨l,hl,hcl⟩:=ygh.mp hc;obtain⟨y,hy,rfl⟩:=ybu.mp hl;obtain⟨d,rfl,hd⟩:=h y hy;rw[show c=d from by simpa[Tx.sg] using hcl];exact hd
theorem qtr {z:Str}(h:∀c∈Tx.sg z,c<=109):z ≠ "none" := λe=>by
 have:=h 110 (by rw[e];decide +kernel);omega
theorem qs3 {n j:Nat}(h:j<n):ixN n (j:Int)=some j:=by
 unfold ixN;rw[if_pos (by omega),if_pos (by omega),yfg]
def one (x:Nat):Str:=⟨#[x]⟩
theorem qgQ (l:List Nat):Tx.sg (_root_.PySem.Txt.join ("" : Str) (l.map one))=l:=by
 rw[qdZ,ycw]
 induction l with
 | nil=>rfl
 | cons x l ih =>
  rw[ycg,yfm,ih];rfl
def wdN (b:List Nat)(u x k:Nat):Str:=_root_.PySem.Txt.join ("" : Str) ((b.set u (97+(x+3*k)%26)).map one)
theorem qmo (b:List Nat)(u x k:Nat):(wdN b u x k).length=b.length:=by
 rw[<-Tx.len_sg,wdN,qgQ,yfj]
def wd3 (c S u:Nat)(z:Str)(k:Nat):Str:=if c/9%3=0 then wdN ((List.range S).map λj=>97+c/(3*j+7)%26) u (c/64) k else if c/9%3=1 then _root_.PySem.Txt.slice z none (some ((k+1:Nat):Int)) else _root_.PySem.Txt.slice z (some ((7-k:Nat):Int)) none
theorem qqi {l:List Nat}{u x:Nat}(hu:u<l.length):((sV (l.map one)).take u++[V.str (one x)])++(sV (l.map one)).drop (u+1)=sV ((l.set u x).map one):=by
 have e:l.set u x=l.take u++x::l.drop (u+1):=List.set_eq_take_append_cons_drop.trans (if_pos hu);rw[e];unfold sV;simp only[ygz,yhd,ycv,ycg,ydk];rfl
theorem qoP {k:Nat}(h:k<8):(Str.ofString "abcdefgh").cps[((k:Nat):Int).toNat]?=some (97+k):=by
 rw[yfg];have:∀k,k<8->(Str.ofString "abcdefgh").cps[k]?=some (97+k):=by decide +kernel
 exact this k h
theorem qsq {c S u n:Nat}{z:Str}(hn:n<=8)(h1:1<=S)(h8:S<=8)(hu:u<S)(hz:z.length=8)(hzl:∀x∈Tx.sg z,97<=x/\x<=122)(hno:("none" : Str)∉(List.range n).map (wd3 c S u z)):Tx.Wds ((List.range n).map (wd3 c S u z)):=by
 have l1:∀k,k<n->(_root_.PySem.Txt.slice z none (some ((k+1:Nat):Int))).length=k+1:=λk hk=>qsT (by omega)
 have l2:∀k,k<n->(_root_.PySem.Txt.slice z (some ((7-k:Nat):Int)) none).length=k+1:=λk hk=>by
  have:=qow (z:=z) (i:=7-k) (by omega);omega
 refine qo8 hn (λk hk=>?_) (λi j hij hj e=>?_) λk hk e=>hno (ybu.mpr ⟨k,ybj.mpr hk,e⟩)
 .unfold wd3
  split
  .refine⟨by rw[qmo,ycd,ygk];exact h1,by rw[qmo,ycd,ygk];exact h8,λx hx=>?_⟩
   rw[wdN,qgQ] at hx;rcases List.mem_or_eq_of_mem_set hx with h | h
   .obtain⟨j,_,rfl⟩:=ybu.mp h
    have:=yee (c/(3*j+7)) (show 0<26 by decide);omega
   .omega
  .split
   .have:=l1 k hk
    exact⟨by omega,by omega,qjV hzl⟩
   .have:=l2 k hk
    exact⟨by omega,by omega,qjV hzl⟩
 .unfold wd3 at e
  split at e
  .have e:=congrArg Tx.sg e
   rw[wdN,wdN,qgQ,qgQ] at e;have e:=congrArg (λl=>l[u]?) e;simp only[yeq (show u<((List.range S).map λj=>97+c/(3*j+7)%26).length by simpa using hu)] at e;have e:=Option.some.inj e;omega
  .split at e
   .have z1:=l1 i (by omega)
    have z2:=l1 j hj;rw[e] at z1;omega
   .have z1:=l2 i (by omega)
    have z2:=l2 j hj;rw[e] at z1;omega
def qij (K:W.Frag):Sp:=sp2 λx y H Q=>∃(c n:Nat),x = .int (c:Nat)/\y = .int (n:Nat)/\n<=8/\∀(p:Addr) (ws:List Str) (H':Hp),H p=none->qar H H'->H' p=some (.lst (sV ws))->Tx.Wds ws->ws.length=n->Q (.ref p) H'
theorem qg3 {f:Addr}{fd:FuncData}(F:Fun K "_law_words" "_law_words" qc5 f fd)(T:Txt mg)  : qaM P w K mg base CX0 1 f fd ["_law_cell", "_law_many"] (qij K):=by
 have sc:=qdN;refine F.ok qdN (λvs H Q E h=>by obtain⟨_,_,rfl,_⟩:=h;rfl) (λcdv A outer s H vs Q E hr h=>?_);obtain⟨x0,x1,rfl,h⟩:=h
 refine⟨_,(qab (qat (i:=2) sc.nd rfl (Or.inr rfl) qaq)
   (qab (qat (i:=3) sc.nd rfl (Or.inl rfl) (qan qbf qae (qan qa3 (pv 0) qae)))
   (qab (qat (i:=4) sc.nd rfl (Or.inl rfl) (qan qa3 (qan qbd (pv 0) qae) (pv 3)))
   (qab (qbs (i:=5) sc.nd rfl rfl (by rfl) (N:=["_law_k", "_law_letters", "_law_cell"]) (nt:=1) (caps:=[2,0]) qax rfl (qaG (by rfl) T.n_range (qaa (pv 3) qac)) (λ_ _ _ _ _=>(qam (i:=0) (show List.Nodup (α:=Str) ["_law_k", "_law_letters", "_law_cell"] from by decide +kernel) rfl (Or.inl rfl))) qaz (λ_ _ _ _ _=>qaD) (λ_ _ _ _ _=>(qct (pv 1) (qan qa3 (qan qbd (pv 2) (qan qbf (qan qgh qae (pv 0)) qae)) qae) (λ_ _=>rfl))))
   (qab (qat (i:=6) sc.nd rfl (Or.inl rfl) (qaJ qac))
   (qab (qat (i:=7) sc.nd rfl (Or.inl rfl) (qbj yhe yhf yhg (qbC (K:=K) rfl) qaq (qaa (qaH (N:=["_law_k", "_law_letters", "_law_cell"]) (nt:=1) (caps:=[2,0]) qax rfl (qaG (by rfl) T.n_range (qaa qae qac)) (λ_ _ _ _ _=>(qam (i:=0) (show List.Nodup (α:=Str) ["_law_k", "_law_letters", "_law_cell"] from by decide +kernel) rfl (Or.inl rfl))) qaz (λ_ _ _ _ _=>qaD) (λ_ _ _ _ _=>(qct (pv 1) (qan qa3 (qan qbd (pv 2) (qan qbf (qan qgh qae (pv 0)) qae)) qae) (λ_ _=>rfl)))) qac)))
   (qab (qaZ PassesOwn.never rfl (qaG (by rfl) T.n_range (qaa (pv 1) qac)) (qam (i:=8) sc.nd rfl (Or.inl rfl)) (qab (qat (i:=9) sc.nd rfl (Or.inl rfl) (qct (pv 2) (qan qa3 (qan qbf (qan qbd (pv 0) qae) (qan qgh qae (pv 8))) qae) (λ_ _=>rfl)))
   (qad (qco (qbj ygw ygx ygy qbI (pv 6) (qaa (qaw (qaO (K:=K) rfl) (qaJ (qaa (qbj yhe yhf yhg (qbC (K:=K) rfl) qaq (qaa (qan (qb4 (K:=K) rfl) (qan (qb4 (K:=K) rfl) (qaS (qkF (K:=K) rfl) (pv 5) qbm (qa7 (pv 4))) (qaJ (qaa (pv 9) qac))) (qaS (qkF (K:=K) rfl) (pv 5) (qa7 (qan qbf (pv 4) qae)) qbm)) qac)) (qaa (qaS qpz (pv 7) qbm (qa7 (qan qbf (pv 8) qae))) (qaa (qaS qpz (pv 7) (qa7 (qan qic qae (pv 8))) qbm) qac)))) (qan qa3 (qan qbd (pv 0) qae) qae) (λ_ _=>rfl)) qac))))))
   (qab (qaA (qai (qlk (K:=K) rfl) qaq (pv 6) (by with_unfolding_all rfl)) (qad (qah (qaH (N:=["_law_k"]) (nt:=1) (caps:=[]) qax rfl (qaG (by rfl) T.n_range (qaa (pv 1) qac)) (λ_ _ _ _ _=>(qam (i:=0) (show List.Nodup (α:=Str) ["_law_k"] from by decide +kernel) rfl (Or.inl rfl))) qaz (λ_ _ _ _ _=>qaD) (λ_ _ _ _ _=>(qct qaq (pv 0) (λ_ _=>rfl)))))) qak)
   (qad (qah (pv 6))))))))))),?_⟩
 refine rdg (σ':=[some x0,some x1,none,none,none,none,none,none,none,none]) rfl ?_;obtain⟨c,n,rfl,rfl,hn,q⟩:=h;walk_at "rd";have hs:=yee c (show 0<8 by decide);have es:(1:Int)+((c:Nat):Int)%8=((1+c%8:Nat):Int):=by omega
 have hS1:1<=1+c%8:=by omega
 have hS8:1+c%8<=8:=by omega
 rw[es];generalize 1+c%8=S at hS1 hS8⊢;rw[show((c:Nat):Int)/8%((S:Nat):Int)=((c/8%S:Nat):Int) from rfl];have ua:=yee (c/8) (show 0<S by omega);generalize c/8%S=u at ua⊢;refine⟨by decide,⟨by decide,by decide⟩,by omega,by omega,by omega,?_⟩;rw[yfg];have abcL:(Str.ofString "abcdefghijklmnopqrstuvwxyz").length=26:=qra;have lt26:∀x:Nat,x%26<26:=λx=>yee x (by decide);refine qcQ (λ_=>true) (λj => .str (one (97+c/(3*j+7)%26))) (by omega) (λj hj H1 s1 R R' r1 r2=>?_) λH1 p1 s1 hp1=>?_
 . (try walk_at "rd")
   have e:=lt26 (c/(3*j+7));rw[show(3:Int)*((j:Nat):Int)+7=((3*j+7:Nat):Int) by omega,show((c:Nat):Int)/((3*j+7:Nat):Int)%26=((c/(3*j+7)%26:Nat):Int) from rfl];refine⟨.inl ⟨by decide,by decide⟩,⟨by omega,by omega⟩,by decide,by omega,by omega,by omega,_,qlv _ (by omega),?_⟩;exact r1 rfl _ (qar.refl _)
 rw[ygd.mpr λ_ _=>rfl,qdj];generalize g1:upd H1 p1 _=G1;have a1:=qap g1;have t1:=s1.trans (qaj g1 hp1);refine⟨qau (by simp),λp hp=>⟨rfl,by decide,by decide,?_⟩⟩;generalize g2:upd G1 p _=G2;have a2:=qap g2;have t2:=t1.trans (qaj g2 hp);have a1:=qaj g2 hp _ _ a1;have hp0:H p=none:=qaC t1 hp;have n1:p1≠p:=qaV (by assumption) hp;rw[show Int.toNat 8=8 from rfl];refine qcQ (λ_=>true) (λk => .str (one (97+c/(5*k+11)%26))) (by decide) (λj hj H3 s3 R R' r1 r2=>?_) λH3 p3 s3 hp3=>?_
 . (try walk_at "rd")
   have e:=lt26 (c/(5*j+11));rw[show(5:Int)*((j:Nat):Int)+11=((5*j+11:Nat):Int) by omega,show((c:Nat):Int)/((5*j+11:Nat):Int)%26=((c/(5*j+11)%26:Nat):Int) from rfl];refine⟨.inl ⟨by decide,by decide⟩,⟨by omega,by omega⟩,by decide,by omega,by omega,by omega,_,qlv _ (by omega),?_⟩;exact r1 rfl _ (qar.refl _)
 rw[ygd.mpr λ_ _=>rfl,qdj];generalize g3:upd H3 p3 _=G3;have a3:=qap g3;have s3':=s3.trans (qaj g3 hp3);have t3:=t2.trans s3';have a1:=s3' _ _ a1;have a2:=s3' _ _ a2;refine⟨_,p3,_,rfl,rfl,SqL.of a3,qaU (M:=1) (N:=8) (λy hy=>?_) (by simp) (by decide +kernel) (by decide),?_⟩
 . obtain⟨k,_,rfl⟩:=ybu.mp hy
   exact yaz 1
 obtain⟨hz8,hzl⟩:=qqS (ys:=(List.range 8).map λk:Nat=>one (97+c/(5*k+11)%26)) λy hy=>by
   obtain⟨k,_,rfl⟩:=ybu.mp hy;have:=lt26 (c/(5*k+11));exact⟨_,rfl,by omega,by omega⟩
 rw[ycd,ygk] at hz8;generalize _root_.PySem.Txt.join (Str.ofString "") ((List.range 8).map λk:Nat=>one (97+c/(5*k+11)%26))=z at hz8 hzl⊢;have zb:z.length<=100000:=by omega
 refine⟨by omega,by omega,?_⟩;rw[yfg];refine qeM (λi σ H'=>∃(v8 v9:Option V),σ=[some (.int (c:Nat)),some (.int (n:Nat)),some (.str (Str.ofString "abcdefghijklmnopqrstuvwxyz")),some (.int (S:Nat)),some (.int (u:Nat)),some (.ref p1),some (.ref p),some (.str z),v8,v9]/\qar H H'/\H' p1=some (.lst (sV ((List.range S).map λj=>one (97+c/(3*j+7)%26))))/\H' p=some (.lst (sV ((List.range i).map (wd3 c S u z))))) ⟨none,none,rfl,t3,a1,a2⟩ ?_ ?_
 . rintro i σ H4 hi ⟨v8,v9,rfl,s4,b1,b2⟩ N hN
   (try walk_at "rd")
   have e26:=lt26 (c/64+3*i);rw[show((c:Nat):Int)/64=((c/64:Nat):Int) from rfl,show(((c/64:Nat):Int)+3*((i:Nat):Int))%26=(((c/64+3*i)%26:Nat):Int) by omega];have h9:p1≠p/\H p=none:=⟨n1,hp0⟩;refine⟨⟨by decide,by decide⟩,.inl ⟨by decide,by decide⟩,by decide,by omega,by omega,by omega,_,qlv _ (by omega),qaX b2,rfl,?_⟩;rw[yfg];refine⟨p1,_,rfl,SqL.of b1,λq1 hq1=>⟨qau (by simp),λq2 hq2=>?_⟩⟩;rw[qeZ] at hq2⊢;generalize k1:upd H4 q1 _=I1 at hq2⊢;have c1:=qap k1;have w1:=qaj k1 hq1;generalize k2:upd I1 q2 _=I2;have c2:=qap k2;have w2:=w1.trans (qaj k2 hq2);have c1:=qaj k2 hq2 _ _ c1;refine⟨q1,q2,_,_,rfl,rfl,SqL.of c1,SqL.of c2,qau (by rw[yfb,qaI,ycd,ygk,yfn];omega),λq3 hq3=>?_⟩;generalize k3:upd I2 q3 _=I3;have c3:=qap k3;have w3:=w2.trans (qaj k3 hq3);refine⟨p1,_,rfl,SqL.of (w3 _ _ b1),λq4 hq4=>?_⟩;rw[show((u:Nat):Int)+1=((u+1:Nat):Int) from rfl,qbY];generalize k4:upd I3 q4 _=I4;have c4:=qap k4;have c3:=qaj k4 hq4 _ _ c3;have w4:=w3.trans (qaj k4 hq4);refine⟨q3,q4,_,_,rfl,rfl,SqL.of c3,SqL.of c4,qau (by rw[ydq,yfb,ydg,qaI,ycd,ygk,yfn];omega),λq5 hq5=>?_⟩;generalize k5:upd I4 q5 _=I5;have c5:=qap k5;have w5:=w4.trans (qaj k5 hq5);rw[show((sV ((List.range S).map λj=>one (97+c/(3*j+7)%26))).take u++[V.str ⟨#[97+(c/64+3*i)%26]⟩])++(sV ((List.range S).map λj=>one (97+c/(3*j+7)%26))).drop (u+1)=sV ((((List.range S).map λj=>97+c/(3*j+7)%26).set u (97+(c/64+3*i)%26)).map one) from by have:=qqi (l:=(List.range S).map λj=>97+c/(3*j+7)%26) (u:=u) (x:=97+(c/64+3*i)%26) (by simpa using ua);rw[ycw] at this;exact this] at c5;refine⟨_,q5,_,rfl,rfl,SqL.of c5,qaU (M:=1) (N:=8) (λy hy=>?_) (by rw[ycd,yfj,ycd,ygk];exact hS8) (by decide +kernel) (by decide),?_⟩
   . obtain⟨k,_,rfl⟩:=ybu.mp hy
     exact yaz 1
   rw[show(7:Int)-((i:Nat):Int)=((7-i:Nat):Int) by omega,show((c:Nat):Int)/9%3=((c/9%3:Nat):Int) from rfl];refine⟨z,rfl,zb,z,rfl,zb,qau (by simp),λq6 hq6=>⟨⟨by decide,by decide⟩,by decide,?_⟩⟩;generalize k6:upd I5 q6 _=I6;have c6:=qap k6;have w6:=w5.trans (qaj k6 hq6);refine qaF (v := .str (wd3 c S u z i)) (SqL.of c6) ?_ ?_
   . have e3:=yee (c/9) (show 0<3 by decide)
     unfold wd3;generalize c/9%3=w at e3
     match w,e3 with
     | 0,_=>exact qaR rfl
     | 1,_=>exact qaR rfl
     | 2,_=>exact qaR rfl
   refine⟨p,_,_,rfl,rfl,w6 _ _ b2,qcv (by rw[qaI,ycd,ygk];omega),hN _ _ ⟨_,_,rfl,(s4.trans w6).upd hp0,by rw[qay n1];exact w6 _ _ b1,?_⟩⟩;rw[qag,yds,ycv];show _=some (HO.lst (List.map V.str (_++_)));rw[ycv];rfl
 . rintro σ H4 ⟨v8,v9,rfl,s4,b1,b2⟩
   (try walk_at "rd")
   refine⟨_,.inl (SqL.of b2),rfl,qbT _,?_⟩;rw[qqM];by_cases hno:("none" : Str)∈(List.range n).map (wd3 c S u z)
   . rw[decide_eq_true hno]
     refine qeK ⟨by omega,by omega,?_⟩;rw[yfg];have e8:(Str.ofString "abcdefgh").length=8:=by decide +kernel
     refine qcQ (λ_=>true) (λk => .str (one (97+k))) (by omega) (λk hk H5 s5 R R' r1 r2=>?_) λH5 p5 s5 hp5=>?_
     . (try walk_at "rd")
       refine⟨by omega,by omega,by omega,_,qoP (by omega),r1 rfl _ (qar.refl _)⟩
     rw[ygd.mpr λ_ _=>rfl,qdj];refine q p5 _ _ (qaC (s4.trans s5) hp5) ((s4.trans s5).trans (qar.new hp5)) qag (qo8 hn (λk hk=>⟨yaz 1,by show 1<=8;decide,λx hx=>?_⟩) (λi j hij hj e=>?_) λk hk e=>?_) (by simp)
     . rw[show x=97+k from by simpa[Tx.sg,one] using hx]
       omega
     . have:=congrArg Tx.sg e
       rw[show Tx.sg (one (97+i))=[97+i] from rfl,show Tx.sg (one (97+j))=[97+j] from rfl] at this;have:=(List.cons.inj this).1;omega
     . have l4:("none" : Str).length=4:=by decide +kernel
       rw[<-e] at l4;exact absurd l4 (by show ¬1=4;decide)
   . rw[decide_eq_false hno]
     exact qcA (q p _ _ hp0 s4 b2 (qsq hn hS1 hS8 ua hz8 hzl hno) (by simp))
abbrev qbN:Stmt:=top 89
theorem qcE:qal ["_law_words_here", "_law_one", "_law_some"] ["_law_words_here", "_law_one"] (qaf qbN):=fsc
def qix (K:W.Frag):Sp:=sp2 λx y H Q=>∃(p:Addr) (ws:List Str) (a:Nat),x = .ref p/\H p=some (.lst (sV ws))/\Tx.Wds ws/\y = .int (a:Nat)/\a<2^ws.length/\∀H',qar H H'->Q (.str (Tx.sT ws a)) H'
theorem qeT {f:Addr}{fd:FuncData}(F:Fun K "_law_set_text" "_law_set_text" qbN f fd)(T:Txt mg)  : qaM P w K mg base CX0 1 f fd ["_law_words_here", "_law_one"] (qix K):=by
 have sc:=qcE;refine F.ok qcE (λvs H Q E h=>by obtain⟨_,_,rfl,_⟩:=h;rfl) (λcdv A outer s H vs Q E hr h=>?_);obtain⟨x0,x1,rfl,h⟩:=h
 refine⟨_,(qab (qbs (i:=2) sc.nd rfl rfl (by rfl) (N:=["_law_k", "_law_words_here", "_law_one"]) (nt:=1) (caps:=[0,1]) qax rfl (qaG (by rfl) T.n_range (qaa (qas (qaB (K:=K) rfl) (by rfl) T.n_len PySem.boot_len (qaa (pv 0) qac)) qac)) (λ_ _ _ _ _=>(qam (i:=0) (show List.Nodup (α:=Str) ["_law_k", "_law_words_here", "_law_one"] from by decide +kernel) rfl (Or.inl rfl))) qaz (λ_ _ _ _ _=>(qb6 (qai (qav (K:=K) rfl hr.units0) (qan qce (qan qeL (pv 2) (pv 0)) qae) qae (qao _)))) (λ_ _ _ _ _=>(qaw (qaO (K:=K) rfl) (pv 1) (pv 0) (λ_ _=>rfl))))
   (qab (qaA (qai (qav (K:=K) rfl hr.units0) (pv 2) (qaJ qac) (qao _)) (qad (qah qaq)) qak)
   (qad (qah (qbj yhe yhf yhg (qbC (K:=K) rfl) qaq (qaa (pv 2) qac)))))),?_⟩
 refine rdg (σ':=[some x0,some x1,none]) rfl ?_;obtain⟨p,ws,a,rfl,f1,hw,rfl,ha,q⟩:=h;walk_at "rd";refine⟨_,.inl (SqL.of f1),?_⟩;have h8:=hw.few;rw[qaI];refine⟨by omega,by omega,?_⟩;rw[yfg];refine qcQ (λk=>a.testBit k) (λk => .str (ws.getD k Str.empty)) (by omega) (λk hk H3 s3 R R' r1 r2=>?_) λH3 p3 s3 hp3=>?_
 . (try walk_at "rd")
   refine⟨by omega,?_⟩;cases b:a.testBit k with
   | false =>
     rw[if_neg (by rw[qdx,b];decide)];exact r2 b _ (qar.refl _)
   | true =>
     rw[if_pos (by rw[qdx,b])];have ek:ws[k]?=some (ws.getD k Str.empty):=by rw[ycj,yck hk];rfl
     exact qaF (SqL.of (s3 _ _ f1)) (qbh ek) (r1 b _ (qar.refl _))
 rw[show((List.range ws.length).filter λk=>a.testBit k).map (λk=>V.str (ws.getD k Str.empty))=sV (Tx.wds ws a) from by unfold Tx.wds;rw[<-qkU hw.few ha];exact qdj _ _]
 have lw:(Tx.wds ws a).length<=8:=by
   unfold Tx.wds;rw[ycd];exact ybn (ybo _ _) (by simp)
 have ly:∀y∈Tx.wds ws a,y.length<=8:=λy hy=>(hw.wd y (Tx.wds_mem hw ha hy)).2.1;generalize g3:upd H3 p3 _=G3;have a3:=qap g3;have s3:=s3.trans (qaj g3 hp3)
 (try walk_at "rd")
 refine⟨qau (by simp),λp4 hp4=>?_⟩;generalize g4:upd G3 p4 _=G4;have a4:=qap g4;have t4:=qaj g4 hp4;have a3:=t4 _ _ a3;have s4:=s3.trans t4;refine qgO (SqL.of a3) (SqL.of a4) (qbT _) rfl ?_;by_cases h0:a=0
 . have e:Tx.wds ws a=[]:=by rw[h0];rfl
   rw[show Tx.sT ws a = "-" from if_pos h0] at q;rw[e];exact⟨true,rfl,qeK (q _ s4)⟩
 . have ne:=Tx.wds_ne hw ha h0
   rw[show Tx.sT ws a=_root_.PySem.Txt.join "+" (Tx.wds ws a) from if_neg h0] at q
   have e:qgm (sV (Tx.wds ws a)) []=false:=by
     rw[show([]:List V)=sV [] from rfl,qe9];exact decide_eq_false ne
   rw[e];exact⟨false,rfl,qcA ⟨rfl,_,p3,_,rfl,rfl,SqL.of a3,qaU (M:=8) (N:=8) ly lw (by rw[Tx.lit_plus];decide) (by decide),q _ s4⟩⟩
abbrev qdD:Stmt:=top 90
theorem qeG:qal ["_law_words_here", "_law_family_here"] ["_law_words_here", "_law_family_here"] (qaf qdD):=fsc
def qlJ (K:W.Frag):Sp:=sp2 λx y H Q=>∃(p p2:Addr) (ws:List Str) (fs:List Nat),x = .ref p/\H p=some (.lst (sV ws))/\Tx.Wds ws/\y = .ref p2/\H p2=some (.lst (nV fs))/\(∀b∈fs,b<2^ws.length)/\fs.length<=70/\∀H',qar H H'->Q (.str (Tx.fT ws fs)) H'
theorem qhQ {f:Addr}{fd:FuncData}(F:Fun K "_law_text" "_law_text" qdD f fd)(T:Txt mg){f_06:Addr}{fd_06:FuncData}(C_06:Cal P w K mg base "_law_set_text" 1 ["_law_words_here", "_law_one"] (qix K) f_06 fd_06):qaM P w K mg base CX0 2 f fd ["_law_words_here", "_law_family_here"] (qlJ K):=by
 have sc:=qeG;refine F.ok qeG (λvs H Q E h=>by obtain⟨_,_,rfl,_⟩:=h;rfl) (λcdv A outer s H vs Q E hr h=>?_);obtain⟨x0,x1,rfl,h⟩:=h
 refine⟨_,(qab (qaA (qai (qav (K:=K) rfl hr.units0) (pv 1) (qaJ qac) (qao _)) (qad (qah qaq)) qak)
   (qad (qah (qbj yhe yhf yhg (qbC (K:=K) rfl) qaq (qaa (qaH (N:=["_law_one", "_law_words_here"]) (nt:=1) (caps:=[0]) qax rfl (qaE (pv 1)) (λ_ _ _ _ _=>(qam (i:=0) (show List.Nodup (α:=Str) ["_law_one", "_law_words_here"] from by decide +kernel) rfl (Or.inl rfl))) qaz (λ_ _ _ _ _=>qaD) (λ_ _ _ _ _=>(pec C_06 hr (qaa (pv 1) (qaa (pv 0) qac))))) qac))))),?_⟩
 refine rdg (σ':=[some x0,some x1]) rfl ?_;obtain⟨p,p2,ws,fs,rfl,f1,hw,rfl,f2,hb,hl,q⟩:=h;walk_at "rd";refine⟨qau (by simp),λp4 hp4=>?_⟩;generalize g4:upd H p4 _=G4;have a4:=qap g4;have t4:=qaj g4 hp4;have f2:=t4 _ _ f2;have f1:=t4 _ _ f1;refine qgO (SqL.of f2) (SqL.of a4) (qie _) rfl ?_;by_cases h0:fs=[]
 . rw[show Tx.fT ws fs = "none" from if_pos h0] at q
   subst h0;exact⟨true,rfl,qeK (q _ t4)⟩
 rw[show Tx.fT ws fs=_root_.PySem.Txt.join " " (fs.map (Tx.sT ws)) from if_neg h0] at q
 have e:qgm (nV fs) []=false:=by
   rw[show([]:List V)=nV [] from rfl,qmP];exact decide_eq_false h0
 rw[e];refine⟨false,rfl,qcA ⟨rfl,⟨_,SqL.of f2⟩,qbv (fs:=fs) (λ_=>true) (λb => .str (Tx.sT ws b)) (SqL.of f2) (by omega) (λb hb' H2 s2 R R' r1 r2=>?_) λH2 p3 s2 hp3=>?_⟩⟩
 . (try walk_at "rd")
   exact⟨_,_,rfl,p,ws,b,rfl,s2 _ _ f1,hw,rfl,hb b hb',λH3 s3=>r1 rfl _ s3⟩
 . rw[ygd.mpr λ_ _=>rfl,qdj]
   refine⟨_,p3,fs.map (Tx.sT ws),rfl,rfl,SqL.of qag,qaU (M:=72) (N:=70) (λy hy=>?_) (by rw[ycd];exact hl) (by rw[Tx.lit_space];decide) (by decide),q _ ((t4.trans s2).trans (qar.new hp3))⟩;obtain⟨b,hb',rfl⟩:=ybu.mp hy;exact Tx.sT_len hw (hb b hb')
abbrev qeh:Stmt:=top 91
theorem qfu:qal ["_law_words_here", "_law_text_here", "_law_one", "_law_word"] ["_law_words_here", "_law_text_here"] (qaf qeh):=fsc
theorem qh1 {fs:List Nat}{i a:Nat}(h:fs[i]?=some a):fs.take (i+1)=fs.take i++[a]:=by rw[ygq,h];rfl
theorem qgv (L:List Nat)(a:Nat):Fam.ofN (L++[a])=Fam.ofN L|||2^a:=by unfold Fam.ofN;rw[yar];rfl
def qm2 (K:W.Frag):Sp:=sp2 λx y H Q=>∃(p:Addr) (ws:List Str) (a:Nat),x = .ref p/\H p=some (.lst (sV ws))/\Tx.Wds ws/\y = .str (Tx.sT ws a)/\a<2^ws.length/\∀H',qar H H'->Q (.int (a:Nat)) H'
theorem qiO {f:Addr}{fd:FuncData}(F:Fun K "_law_set" "_law_set" qeh f fd)(T:Txt mg)  : qaM P w K mg base CX0 1 f fd ["_law_words_here", "_law_text_here"] (qm2 K):=by
 have sc:=qfu;refine F.ok qfu (λvs H Q E h=>by obtain⟨_,_,rfl,_⟩:=h;rfl) (λcdv A outer s H vs Q E hr h=>?_);obtain⟨x0,x1,rfl,h⟩:=h
 refine⟨_,(qab (qaA (qai (qav (K:=K) rfl hr.units0) (pv 1) qaq (qao _)) (qad (qah qae)) qak)
  (qab (qat (i:=2) sc.nd rfl (Or.inl rfl) qae)
  (qab (qaZ PassesOwn.never rfl (qaE (qbj yhe yhh yhi qbE (pv 1) (qaa qaq qac))) (qam (i:=3) sc.nd rfl (Or.inl rfl)) (qad (qat (i:=2) sc.nd rfl (Or.inl rfl) (qan qed (pv 2) (qan qa0 qae (qcY (K:=K) rfl ygw ygp yhj qbi (pv 0) (qaa (pv 3) qac)))))))
  (qad (qah (pv 2)))))),?_⟩
 refine rdg (σ':=[some x0,some x1,none,none]) rfl ?_;obtain⟨p,ws,a,rfl,f1,hw,rfl,ha,q⟩:=h;walk_at "rd";have h8:=hw.few;have l1:=Tx.sT_len hw ha;have es:=Tx.split_sT hw ha;by_cases h0:a=0
 .rw[if_pos (show Tx.sT ws a=Str.ofString "-" from if_pos h0)]
  subst h0;exact q _ (qar.refl _)
 rw[if_neg h0] at es
 have nz:¬Tx.sT ws a=Str.ofString "-" := λe=>by
  rw[e] at es;have e2:_root_.PySem.Txt.split (Str.ofString "-") "+" = [("-" : Str)]:=by decide +kernel
  have hm:=hw.wd "-" (Tx.wds_mem hw ha (by rw[<-es,e2];exact ybd));have:=hm.2.2 45 (by rw[Tx.lit_dash];exact ybd);omega
 rw[if_neg nz];refine⟨rfl,_,_,rfl,rfl,by rw[Tx.lit_plus];rfl,by omega,λp1 hp1=>⟨p1,rfl,⟨_,SqL.of qag⟩,?_⟩⟩;generalize g1:upd H p1 _=G1;have a1:=qap g1;have s1:=qaj g1 hp1;rw[show _root_.PySem.Txt.split (Tx.sT ws a) (Str.ofString "+")=_ from es] at a1;refine qgr (xs:=sV (Tx.wds ws a)) (λi σ H'=>∃v,σ=[some (.ref p),some (.str (Tx.sT ws a)),some (.int (Fam.ofN ((Fam.nms 8 a).take i):Nat)),v]/\qar G1 H') ⟨none,rfl,qar.refl _⟩ (λi σ H' _ ⟨_,_,e⟩=>SqL.of (e _ _ a1)) ?_ ?_
 .rintro i x σ H' hx ⟨v,rfl,s2⟩ N hN
  rw[ycp] at hx;cases eb:(Tx.wds ws a)[i]? with
  | none=>rw[eb] at hx;cases hx
  | some w =>
   rw[eb] at hx;cases hx;have wm:=Tx.wds_mem hw ha (ycl eb);have hk:(Fam.nms 8 a)[i]?=some (ws.idxOf w):=by rw[<-Tx.idx_wds hw ha,ycp,eb];rfl
   have kl:=ygt wm;have f2:=s2 _ _ (s1 _ _ f1)
   (try walk_at "rd")
   refine⟨qaX f2,p,ws,w,rfl,rfl,f2,wm,by omega,?_⟩
   (try walk_at "rd")
   refine⟨qaK (by omega) (by omega) (by decide) (by decide),?_⟩;rw[qaQ,qcb,<-qgv,<-qh1 hk];exact hN _ _ ⟨_,rfl,s2⟩
 .rintro σ H' ⟨v,rfl,s2⟩
  (try walk_at "rd")
  have el:(sV (Tx.wds ws a)).length=(Fam.nms 8 a).length:=by rw[qaI,<-Tx.idx_wds hw ha,ycd]
  have e8:a<2^8:=yae ha (yaf (by decide) h8);rw[el,ydi,Fam.ofN_nms e8];exact q _ (s1.trans s2)
abbrev qgJ:Stmt:=top 10
theorem qh2:qal ["many", "thing"] ["many", "thing"] (qaf qgJ):=fsc
def qsI:Sp:=sp2 λm x H Q=>(∃(k:Nat) (i:Int),m = .int k/\x = .int i/\k<=8/\Q (.bl (decide (0<=i)&&decide (i<(2^k:Nat)))) H)\/∃t,qln H x=some t/\t ≠ "int" /\ Q (.bl false) H
theorem qkT {f:Addr}{fd:FuncData}(F:Fun K "is_set" "is_set" qgJ f fd)(T:Txt mg){f_41:Addr}{fd_41:FuncData}(C_41:Cal P w K mg base "is_whole" 1 ["thing"] qlR f_41 fd_41):qaM P w K mg base CX0 2 f fd ["many", "thing"] qsI:=by
 have sc:=qh2;refine F.ok qh2 (λvs H Q E h=>by obtain⟨_,_,rfl,_⟩:=h;rfl) (λcdv A outer s H vs Q E hr h=>?_);obtain⟨x0,x1,rfl,h⟩:=h;refine⟨_,(qad (qah (qih (pec C_41 hr (qaa (pv 1) qac)) (qju (qhl qkm qoA qae (pv 1) (qan qa0 qae (pv 0))))))),?_⟩;refine rdg (σ':=[some x0,some x1]) rfl ?_;walk_at "rd";rcases h with⟨k,i,rfl,rfl,hk8,q⟩ | ⟨t,hk,hne,q⟩
 .refine⟨_,rfl, "int",rfl,true,rfl,qeK ?_⟩
  walk_at "rd";split
  .rename_i h0
   rw[decide_eq_true h0,yfw] at q;refine⟨qaK (by omega) (by omega) (by decide) (by decide),?_⟩;rw[qaQ];exact q
  .rename_i h0
   rw[decide_eq_false h0,yeu] at q;exact q
 .exact⟨_,rfl,t,hk,false,by rw[qoa hne],qcA q⟩
abbrev qdz:Stmt:=top 18
theorem qeN:qal ["many", "thing", "before", "one"] ["many", "thing"] (qaf qdz):=fsc
/-- how far the items are sets that rise,from b on -/
def qnr (m:Nat):Int->List V->Bool
 | _,[]=>true
 | b,x::r=>match x with | .int i=>decide (0<=i)&&decide (i<(2^m:Nat))&&decide (b<i)&&qnr m i r | _=>false
/-- the items are of kinds that are told -/
def Kd (H:Hp)(xs:List V):Prop:=∀x∈xs,∃t,qln H x=some t
theorem qtk {H:Hp}{x:V}{t:String}(h:qln H x=some t)(hn:∀i,x ≠ .int i):t ≠ "int" := by
 intro e;subst e;cases x with
 | int i=>exact hn i rfl
 | non=>exact absurd (Option.some.inj h) (by decide)
 | bl b=>exact absurd (Option.some.inj h) (by decide)
 | str z=>exact absurd (Option.some.inj h) (by decide)
 | byt z=>cases h
 | flt z=>cases h
 | ty z=>cases h
 | ref a =>
  unfold qln at h;dsimp only at h;split at h<;>first | exact absurd (Option.some.inj h) (by decide) | cases h
theorem qrn {m:Nat}{b:Int}{x:V}{r:List V}(hn:∀i,x ≠ .int i):qnr m b (x::r)=false:=by
 cases x with
 | int i=>exact absurd rfl (hn i)
 | _=>rfl
theorem qnM {t:String}(h:t ≠ "list"):qng t "list" = false:=by
 unfold qng;rw[show(t == "list")=false from beq_eq_false_iff_ne.mpr h];cases(t == "bool")<;>rfl
def qkL (K:W.Frag):Sp:=sp2 λx y H Q=>∃m:Nat,x = .int m/\m<=8/\((∃(p:Addr) (xs:List V),y = .ref p/\H p=some (.lst xs)/\xs.length<=1000/\Kd H xs/\Q (.bl (decide (xs.length<=70)&&qnr m (-1) xs)) H)\/∃t,qln H y=some t/\t ≠ "list" /\ Q (.bl false) H)
theorem qig {f:Addr}{fd:FuncData}(F:Fun K "is_family" "is_family" qdz f fd)(T:Txt mg){f_55:Addr}{fd_55:FuncData}(C_55:Cal P w K mg base "is_set" 2 ["many", "thing"] qsI f_55 fd_55):qaM P w K mg base CX0 3 f fd ["many", "thing"] (qkL K):=by
 have sc:=qeN;refine F.ok qeN (λvs H Q E h=>by obtain⟨_,_,rfl,_⟩:=h;rfl) (λcdv A outer s H vs Q E hr h=>?_);obtain⟨x0,x1,rfl,h⟩:=h
 refine⟨_,(qab (qaA (PW.pt (qf7 (qbD (qa9 (qas qbL (by rfl) T.n_isinstance PyProof.Rows.boot_isinstance (qaa (pv 1) (qaa (qfJ (v := .ty "list") (by rfl) T.n_list PyProof.Rows.boot_list rfl) qac))))) (qdd (qai qn8 (qas (qaB (K:=K) rfl) (by rfl) T.n_len PySem.boot_len (qaa (pv 1) qac)) (qc9 T.c_MOST_SETS (by rfl)) (qao _))))) (qad (qah qbg)) qak)
  (qab (qat (i:=2) sc.nd rfl (Or.inl rfl) (qp5 qoX qae))
  (qab (qaZ PassesOwn.never rfl (qaE (pv 1)) (qam (i:=3) sc.nd rfl (Or.inl rfl)) (qab (qaA (PW.pt (qf7 (qbD (qa9 (pec C_55 hr (qaa (pv 0) (qaa (pv 3) qac))))) (qdd (qai qkm (pv 3) (pv 2) (qao _))))) (qad (qah qbg)) qak)
  (qad (qat (i:=2) sc.nd rfl (Or.inl rfl) (pv 3)))))
  (qad (qah qbg))))),?_⟩
 refine rdg (σ':=[some x0,some x1,none,none]) rfl ?_;obtain⟨m,rfl,hm,h⟩:=h;walk_at "rd";rcases h with⟨p,xs,rfl,f1,hl,kd,q⟩ | ⟨t,hk,hne,q⟩
 .refine⟨_, "list",⟨rfl,rfl⟩, "list",qrS f1,by decide,?_⟩
  rw[if_neg (by decide)];refine⟨p,rfl,_,.inl (SqL.of f1),?_⟩
  (try walk_at "rd")
  by_cases h70:xs.length<=70
  .rw[if_neg (by omega)]
   rw[decide_eq_true h70,yfw] at q;refine⟨⟨_,SqL.of f1⟩,qgr (xs:=xs) (λi σ H'=>∃(b:Int) (v:Option V),σ=[some (.int m),some (.ref p),some (.int b),v]/\H'=H/\qnr m (-1) xs=qnr m b (xs.drop i)) ⟨-1,none,rfl,rfl,rfl⟩ (λi σ H' _ ⟨_,_,_,e,_⟩=>e▸SqL.of f1) ?_ ?_⟩
   .rintro i x σ H' hx ⟨b,v,rfl,rfl,ef⟩ N hN
    have hi:=ycm.mp hx;have ed:xs.drop i=x::xs.drop (i+1):=by rw[yhk hi.1,hi.2]
    rw[ed] at ef;obtain⟨t,ht⟩:=kd x (ycl hx)
    (try walk_at "rd")
    by_cases hz:∃z,x = .int z
    .obtain⟨z,rfl⟩:=hz
     refine⟨_,_,rfl,.inl ⟨m,z,rfl,rfl,hm,?_⟩⟩;have ef':qnr m (-1) xs=(decide (0<=z)&&decide (z<(2^m:Nat))&&decide (b<z)&&qnr m z (xs.drop (i+1))):=ef
     (try walk_at "rd")
     by_cases hs:(decide (0<=z)&&decide (z<(2^m:Nat)))=false
     .rw[if_pos hs]
      rw[ef',hs,yeu,yeu] at q;exact q
     .rw[if_neg hs]
      rw[(Bool.not_eq_false _).mp hs,yfw] at ef';by_cases hb:b<z
      .rw[if_neg (by omega)]
       rw[decide_eq_true hb,yfw] at ef';exact hN _ _ ⟨z,_,rfl,rfl,ef'⟩
      .rw[if_pos (by omega)]
       rw[ef',decide_eq_false hb,yeu] at q;exact q
    .have hz':∀i,x ≠ .int i:=λi e=>hz ⟨i,e⟩
     refine⟨_,_,rfl,.inr ⟨t,ht,qtk ht hz',?_⟩⟩
     (try walk_at "rd")
     rw[ef,qrn hz'] at q;exact q
   .rintro σ H' ⟨b,v,rfl,rfl,ef⟩
    rw[List.drop_length] at ef;rw[ef] at q
    (try walk_at "rd")
    exact q
  .rw[if_pos (by omega)]
   rw[decide_eq_false h70,yeu] at q;exact q
 .refine⟨_, "list",⟨rfl,rfl⟩,t,hk,by decide,?_⟩
  rw[qnM hne];exact q
abbrev qev:Stmt:=top 11
theorem qfH:qal ["one"] ["one"] (qaf qev):=fsc
def qfA:Sp:=sp1 λx H Q=>∃a:Nat,x = .int a/\a<256/\∀H' p,qar H H'->H' p=none->Q (.ref p) (upd H' p (.lst (nV (Fam.nms 8 a))))
theorem qnw:∀a:Nat,a<256->(List.range (Builtin.Int.intBits (a:Int))).filter (λk=>a.testBit k)=Fam.nms 8 a:=by decide +kernel
theorem qql:∀a:Nat,a<256->Builtin.Int.intBits (a:Int)<=8:=by decide +kernel
theorem qiM {f:Addr}{fd:FuncData}(F:Fun K "names_in" "names_in" qev f fd)(T:Txt mg)  : qaM P w K mg base CX0 1 f fd ["one"] qfA:=by
 have sc:=qfH;refine F.ok qfH (λvs H Q E h=>by obtain⟨_,rfl,_⟩:=h;rfl) (λcdv A outer s H vs Q E hr h=>?_);obtain⟨x0,rfl,h⟩:=h;refine⟨_,(qad (qah (qaH (N:=["k", "one"]) (nt:=1) (caps:=[0]) qax rfl (qaG (by rfl) T.n_range (qaa (qrR PySem.F.plainAttrs_int PySem.F.slot_int_bit_length PySem.F.type_int_bit_length qmJ (pv 0)) qac)) (λ_ _ _ _ _=>(qam (i:=0) (show List.Nodup (α:=Str) ["k", "one"] from by decide +kernel) rfl (Or.inl rfl))) qaz (λ_ _ _ _ _=>(qb6 (qai (qav (K:=K) rfl hr.units0) (qan qce (qan qeL (pv 1) (pv 0)) qae) qae (qao _)))) (λ_ _ _ _ _=>(pv 0))))),?_⟩;refine rdg (σ':=[some x0]) rfl ?_;obtain⟨a,rfl,ha,q⟩:=h;walk_at "rd";have hb:=qql a ha;refine⟨by simp[tyV],by omega,by omega,?_⟩;rw[yfg];refine qcQ (λk=>a.testBit k) (λk => .int (k:Nat)) (by omega) (λk hk H1 sm R R' r1 r2=>?_) λH1 p sm hp=>?_
 .walk_at "rd"
  refine⟨by omega,qfM qdx (λhc=>r1 hc _ (qar.refl _)) λhc=>r2 hc _ (qar.refl _)⟩
 .rw[qjT,qnw a ha]
  exact q H1 p sm hp
abbrev qgH:Stmt:=top 12
theorem qh8:qal ["names", "one", "k"] ["names"] (qaf qgH):=fsc
def qmF (K:W.Frag):Sp:=sp1 λx H Q=>∃p fs,x = .ref p/\SqL K H p (nV fs)/\(∀k∈fs,k<8)/\Q (.int (Fam.ofN fs:Nat)) H
theorem ql1 {f:Addr}{fd:FuncData}(F:Fun K "set_of" "set_of" qgH f fd)(T:Txt mg)  : qaM P w K mg base CX0 1 f fd ["names"] (qmF K):=by
 have sc:=qh8;refine F.ok qh8 (λvs H Q E h=>by obtain⟨_,rfl,_⟩:=h;rfl) (λcdv A outer s H vs Q E hr h=>?_);obtain⟨x0,rfl,h⟩:=h
 refine⟨_,(qab (qat (i:=1) sc.nd rfl (Or.inl rfl) qae)
  (qab (qaZ PassesOwn.never rfl (qaE (pv 0)) (qam (i:=2) sc.nd rfl (Or.inl rfl)) (qad (qat (i:=1) sc.nd rfl (Or.inl rfl) (qan qed (pv 1) (qan qa0 qae (pv 2))))))
  (qad (qah (pv 1))))),?_⟩
 refine rdg (σ':=[some x0,none,none]) rfl ?_;obtain⟨p,fs,rfl,hq,hb,q⟩:=h;walk_at "rd";refine⟨⟨_,hq⟩,qq2 (xs:=nV fs) (λi σ H'=>∃v,σ=[some (.ref p),some (.int (Fam.ofN (fs.take i):Nat)),v]/\H'=H) ⟨none,rfl,rfl⟩ (λi σ H' _ ⟨v,_,e⟩=>e▸hq) ?_ ?_⟩
 .rintro i x σ H' hx ⟨v,rfl,rfl⟩
  obtain⟨a,ha,rfl⟩:=qjS hx;have h8:=hb a (ycl ha);walk_at "rd";refine⟨qaK (by omega) (by omega) (by decide) (by decide),?_⟩;rw[qh1 ha,qgv,<-qcb,qaQ]
 .rintro σ H' ⟨v,rfl,rfl⟩
  rw[qaP,ydi];exact⟨_,rfl,q⟩
abbrev qg0:Stmt:=top 33
theorem qhC:qal ["text", "sign"] ["text", "sign"] (qaf qg0):=fsc
def qeY:Sp:=sp2 λx y H Q=>∃z s:Str,x = .str z/\y = .str s/\(s.length==0)=false/\z.length<=10000/\∀p H',H p=none->qar H H'->H' p=some (.lst (sV (Txt.split z s)))->Q (.ref p) H'
theorem qkP {f:Addr}{fd:FuncData}(F:Fun K "parted" "parted" qg0 f fd)(T:Txt mg)  : qaM P w K mg base CX0 1 f fd ["text", "sign"] qeY:=by
 have sc:=qhC;refine F.ok qhC (λvs H Q E h=>by obtain⟨_,_,rfl,_⟩:=h;rfl) (λcdv A outer s H vs Q E hr h=>?_);obtain⟨x0,x1,rfl,h⟩:=h
 refine⟨_,(qab (qaA (qbD (qa9 (qas qbL (by rfl) T.n_isinstance PyProof.Rows.boot_isinstance (qaa (pv 0) (qaa (qfJ (v := .ty "str") (by rfl) T.n_str PyProof.Rows.boot_str rfl) qac))))) (qad qaY) qak)
  (qad (qah (qbj yhe yhh yhi qbE (pv 0) (qaa (pv 1) qac))))),?_⟩
 refine rdg (σ':=[some x0,some x1]) rfl ?_;obtain⟨z,s,rfl,rfl,hs,hz,q⟩:=h;walk_at "rd";refine⟨_,_,⟨rfl,rfl⟩, "str",rfl,by decide,?_⟩;rw[if_neg (by decide)];exact⟨rfl,z,s,rfl,rfl,hs,by omega,λl hl=>q l _ hl (qar.new hl) qag⟩
abbrev qe7:Stmt:=top 32
theorem qgg:qal ["text"] ["text"] (qaf qe7):=fsc
def qhg:Sp:=sp1 λx H Q=>∃z:Str,x = .str z/\Tx.Wd z/\∀H',qar H H'->Q (.bl true) H'
theorem qkp {f:Addr}{fd:FuncData}(F:Fun K "is_word" "is_word" qe7 f fd)(T:Txt mg)  : qaM P w K mg base CX0 1 f fd ["text"] qhg:=by
 have sc:=qgg;refine F.ok qgg (λvs H Q E h=>by obtain⟨_,rfl,_⟩:=h;rfl) (λcdv A outer s H vs Q E hr h=>?_);obtain⟨x0,rfl,h⟩:=h;refine⟨_,(qad (qah (qih (qhl qkm qkm qae (qas qhy (by rfl) T.n_len PySem.boot_len (qaa (pv 0) qac)) (qc9 T.c_MOST_LETTERS (by rfl))) (qju (qas (qnF (K:=K) rfl rfl) (by rfl) T.n_all PyProof.Rows.boot_all (qaa (qaH (N:=["sign"]) (nt:=1) (caps:=[]) qax rfl (qtn (pv 0)) (λ_ _ _ _ _=>(qam (i:=0) (show List.Nodup (α:=Str) ["sign"] from by decide +kernel) rfl (Or.inl rfl))) qaz (λ_ _ _ _ _=>qaD) (λ_ _ _ _ _=>(qhl qho qho qaq (pv 0) qaq))) qac)))))),?_⟩;refine rdg (σ':=[some x0]) rfl ?_;obtain⟨z,rfl,hz,q⟩:=h;walk_at "rd";have e24:sizeLine=16777216:=sizeLine_eq;obtain⟨h1,h8,hc⟩:=id hz;refine⟨by omega,?_⟩;rw[if_pos (by omega),if_pos (by omega)];refine⟨qoj hz,qrP (λ_=>true) (λ_ => .bl true) (by omega) (λx hx H1 s1 R R' r1 r2=>?_) λH1 p s1 hp=>?_⟩
 .obtain⟨c1,c2⟩:=hc x hx
  (try walk_at "rd")
  have b1:=quN c1;have b2:(!decide (("z" : Str).cps.toList < [x]))=true:=qu7 c2;refine⟨true,by simpa using b1,qeK ?_⟩;rw[b2];exact r1 rfl _ (qar.refl _)
 .refine⟨p,(sgs z).map λ_=>true,rfl,SqL.of ?_,?_⟩
  .rw[qag,ygd.mpr λ_ _=>rfl,ycw]
   rfl
  .rw[show((sgs z).map λ_=>true).all id=true by simp]
   exact q _ (s1.trans (qar.new hp))
abbrev qc0:Stmt:=top 26
theorem qdQ:qal ["text", "words", "word"] ["text"] (qaf qc0):=fsc
def qfp (K:W.Frag):Sp:=sp1 λx H Q=>∃ws:List Str,x = .str (Txt.join " " ws)/\Tx.Wds ws/\∀p H',H p=none->qar H H'->H' p=some (.lst (sV ws))->Q (.ref p) H'
theorem qgK {f:Addr}{fd:FuncData}(F:Fun K "read_names" "read_names" qc0 f fd)(T:Txt mg){f_57:Addr}{fd_57:FuncData}(C_57:Cal P w K mg base "parted" 1 ["text", "sign"] qeY f_57 fd_57){f_52:Addr}{fd_52:FuncData}(C_52:Cal P w K mg base "is_word" 1 ["text"] qhg f_52 fd_52):qaM P w K mg base CX0 2 f fd ["text"] (qfp K):=by
 have sc:=qdQ;refine F.ok qdQ (λvs H Q E h=>by obtain⟨_,rfl,_⟩:=h;rfl) (λcdv A outer s H vs Q E hr h=>?_);obtain⟨x0,rfl,h⟩:=h
 refine⟨_,(qab (qat (i:=1) sc.nd rfl (Or.inl rfl) (pec C_57 hr (qaa (pv 0) (qaa qaq qac))))
  (qab (qaA (qai (qav (K:=K) rfl hr.units0) (pv 1) (qaJ (qaa qaq qac)) (qao _)) (qad (qah (qaJ qac))) qak)
  (qab (qaA (PW.pt (qf7 (qai qn8 (qas (qaB (K:=K) rfl) (by rfl) T.n_len PySem.boot_len (qaa (pv 1) qac)) (qc9 T.c_MOST_NAMES (by rfl)) (qao _)) (qdd (qai qoA (qas (qla (P:=P) (w:=w) rfl rfl) (by rfl) T.n_len PySem.boot_len (qaa (qba (qmv (P:=P) (w:=w) (K:=K) rfl rfl rfl rfl) (by rfl) T.n_set PyProof.Rows.boot_set (qaa (pv 1) qac)) qac)) (qas (qaB (K:=K) rfl) (by rfl) T.n_len PySem.boot_len (qaa (pv 1) qac)) (qao _))))) (qad qaY) qak)
  (qab (qaZ PassesOwn.never rfl (qaE (pv 1)) (qam (i:=2) sc.nd rfl (Or.inl rfl)) (qad (qaA (PW.pt (qf7 (qbD (qa9 (pec C_52 hr (qaa (pv 2) qac)))) (qdd (qai (qav (K:=K) rfl hr.units0) (pv 2) (qd4 T.c_NO_SETS (by rfl)) (qao _))))) (qad qaY) qak)))
  (qad (qah (pv 1))))))),?_⟩
 refine rdg (σ':=[some x0,none,none]) rfl ?_;obtain⟨ws,rfl,hw,q⟩:=h;walk_at "rd";by_cases h0:ws=[]
 .subst h0
  refine⟨_,_,rfl,_,_,rfl,rfl,by rw[Tx.lit_space];rfl,by decide +kernel,λp1 G1 hp1 s1 a1=>?_⟩;rw[show Txt.split (Txt.join (" " : Str) []) " " = [("" : Str)] from by decide +kernel] at a1
  (try walk_at "rd")
  refine⟨qau (by simp),λp2 hp2=>?_⟩;generalize g2:upd G1 p2 _=G2;have a2:G2 p2=some (.lst (sV [("" : Str)])):=qap g2;have s2:=qaj g2 hp2;refine qgO (SqL.of (s2 _ _ a1)) (SqL.of a2) (qbT _) (qbT _) ?_;rw[qe9];refine⟨true,by simp,qeK ⟨qau (by simp),λp3 hp3=>?_⟩⟩;have s12:=s1.trans s2;exact q _ _ (qaC s12 hp3) (s12.trans (qar.new hp3)) qag
 have hn:0<ws.length:=List.length_pos_iff.mpr h0;have h8:=hw.few
 have hL:(Txt.join (" " : Str) ws).length<=100:=by
  rw[<-Tx.len_sg,Tx.lit_space,Tx.txt_join];refine ybn (Tx.jn_len (M:=8) λx hx=>?_) (ybn (ygl 9 (by rw[ycd];exact h8)) (by decide));obtain⟨w,hw',rfl⟩:=ybu.mp hx;rw[Tx.len_sg];exact(hw.wd w hw').2.1
 refine⟨_,_,rfl,_,_,rfl,rfl,by rw[Tx.lit_space];rfl,by omega,λp1 G1 hp1 s1 a1=>?_⟩;rw[show Txt.split (Txt.join (" " : Str) ws) " " = ws from by rw[Tx.lit_space];exact Tx.split_join h0 λw hw'=>(hw.wd w hw').free (by decide)] at a1
 (try walk_at "rd")
 refine⟨qau (by simp),λp2 hp2=>?_⟩;generalize g2:upd G1 p2 _=G2;have a2:G2 p2=some (.lst (sV [("" : Str)])):=qap g2;have s2:=qaj g2 hp2;have a1':=s2 _ _ a1;refine qgO (SqL.of a1') (SqL.of a2) (qbT _) (qbT _) ?_;rw[qe9]
 have ne:ws≠[("" : Str)]:=λz=>by
  have hm:=hw.wd "" (by rw[z];exact ybd);have:=hm.1;rw[Tx.lit_empty] at this;exact absurd this (by decide)
 refine⟨false,by simpa using ne,qcA ?_⟩;refine⟨_,.inl (SqL.of a1'),?_⟩;rw[qaI,if_neg (by omega)];refine⟨p1,ws,rfl,SqL.of a1',by omega,λp3 hp3=>?_⟩;rw[qr2 hw.nd];generalize g3:upd G2 p3 _=G3;have a3:=qap g3;have s3:=qaj g3 hp3;have a1'':=s3 _ _ a1';refine⟨p3,_,rfl,a3,by omega,?_⟩;refine⟨_,.inl (SqL.of a1''),?_⟩
 (try walk_at "rd")
 rw[qaI,if_neg (by omega)];refine⟨⟨_,SqL.of a1''⟩,qgr (xs:=sV ws) (λi σ H'=>∃v,σ=[some (.str (Txt.join (" " : Str) ws)),some (.ref p1),v]/\qar G3 H') ⟨none,rfl,qar.refl _⟩ (λi σ H' _ ⟨_,_,e⟩=>SqL.of (e _ _ a1'')) ?_ ?_⟩
 .rintro i x σ H4 hx ⟨v,rfl,s4⟩ N hN
  obtain⟨w,hw',rfl⟩:=ybu.mp (ycl hx)
  (try walk_at "rd")
  refine⟨_,rfl,w,rfl,hw.wd w hw',λH5 s5=>⟨true,rfl,?_⟩⟩;rw[if_neg (by decide)];have nn:w≠("none" : Str):=λz=>hw.no (by rw[<-z];exact hw');rw[if_neg nn];exact hN _ _ ⟨_,rfl,s4.trans s5⟩
 .rintro σ H4 ⟨v,rfl,s4⟩
  (try walk_at "rd")
  exact q p1 _ hp1 (((s1.trans s2).trans s3).trans s4) (s4 _ _ a1'')
abbrev qdC:Stmt:=top 31
theorem qez:qal ["words", "word"] ["words", "word"] (qaf qdC):=fsc
def qd8 (K:W.Frag):Sp:=sp2 λx y H Q=>∃(p:Addr) (ws:List Str) (w:Str),x = .ref p/\H p=some (.lst (sV ws))/\ws.length<=8/\y = .str w/\w∈ws/\Q (.int (ws.idxOf w:Nat)) H
theorem qib {f:Addr}{fd:FuncData}(F:Fun K "read_name" "read_name" qdC f fd)(T:Txt mg)  : qaM P w K mg base CX0 1 f fd ["words", "word"] (qd8 K):=by
 have sc:=qez;refine F.ok qez (λvs H Q E h=>by obtain⟨_,_,rfl,_⟩:=h;rfl) (λcdv A outer s H vs Q E hr h=>?_);obtain⟨x0,x1,rfl,h⟩:=h
 refine⟨_,(qab (qaA (qai (qiq (K:=K) rfl) (pv 1) (pv 0) (by with_unfolding_all rfl)) (qad qaY) qak)
  (qad (qah (qcY (K:=K) rfl ygw ygp yhj qbi (pv 0) (qaa (pv 1) qac))))),?_⟩
 refine rdg (σ':=[some x0,some x1]) rfl ?_;obtain⟨p,ws,w,rfl,f1,hl,rfl,hw,q⟩:=h;walk_at "rd";refine⟨_,.inl (SqL.of f1),rfl,qbT _,false,by rw[qqM];simpa using hw,?_⟩;rw[if_neg (by decide)];exact⟨.inl ⟨rfl,_,SqL.of f1⟩,p,ws,w,rfl,rfl,f1,hw,by omega,q⟩
abbrev qef:Stmt:=top 27
theorem qfk:qal ["words", "one"] ["words", "one"] (qaf qef):=fsc
def qfi (K:W.Frag):Sp:=sp2 λx y H Q=>∃(p:Addr) (ws:List Str) (a:Nat),x = .ref p/\H p=some (.lst (sV ws))/\Tx.Wds ws/\y = .int (a:Nat)/\a<2^ws.length/\∀H',qar H H'->Q (.str (Tx.sT ws a)) H'
theorem qiK {f:Addr}{fd:FuncData}(F:Fun K "show_set" "show_set" qef f fd)(T:Txt mg){f_43:Addr}{fd_43:FuncData}(C_43:Cal P w K mg base "names_in" 1 ["one"] qfA f_43 fd_43):qaM P w K mg base CX0 2 f fd ["words", "one"] (qfi K):=by
 have sc:=qfk;refine F.ok qfk (λvs H Q E h=>by obtain⟨_,_,rfl,_⟩:=h;rfl) (λcdv A outer s H vs Q E hr h=>?_);obtain⟨x0,x1,rfl,h⟩:=h
 refine⟨_,(qab (qaA (qai (qav (K:=K) rfl hr.units0) (pv 1) qae (qao _)) (qad (qah (qd4 T.c_NO_NAMES (by rfl)))) qak)
   (qad (qah (qbj yhe yhf yhg (qbC (K:=K) rfl) qaq (qaa (qaH (N:=["k", "words"]) (nt:=1) (caps:=[0]) qax rfl (qaE (pec C_43 hr (qaa (pv 1) qac))) (λ_ _ _ _ _=>(qam (i:=0) (show List.Nodup (α:=Str) ["k", "words"] from by decide +kernel) rfl (Or.inl rfl))) qaz (λ_ _ _ _ _=>qaD) (λ_ _ _ _ _=>(qaw (qaO (K:=K) rfl) (pv 1) (pv 0) (λ_ _=>rfl)))) qac))))),?_⟩
 refine rdg (σ':=[some x0,some x1]) rfl ?_;obtain⟨p,ws,a,rfl,f1,hw,rfl,ha,q⟩:=h;walk_at "rd";by_cases h0:a=0
 . rw[if_pos (by omega)]
   rw[show Tx.sT ws a = "-" from if_pos h0] at q;exact q _ (qar.refl _)
 rw[if_neg (by omega)];rw[show Tx.sT ws a=Txt.join "+" (Tx.wds ws a) from if_neg h0] at q;refine⟨rfl,_,rfl,a,rfl,Tx.lt256 hw ha,λH1 p1 s1 hp1=>?_⟩;generalize g1:upd H1 p1 _=G1;have a1:=qap g1;have s1:=s1.trans (qaj g1 hp1);have l8:(Fam.nms 8 a).length<=8:=ybn (ybo _ _) (by simp);refine⟨p1,rfl,⟨_,SqL.of a1⟩,qbv (fs:=Fam.nms 8 a) (λ_=>true) (λk => .str (ws.getD k Str.empty)) (SqL.of a1) (by omega) (λk hk H2 s2 R R' r1 r2=>?_) λH2 p2 s2 hp2=>?_⟩
 . (try walk_at "rd")
   have hl:=Tx.nms_lt ha hk;exact qaF (SqL.of (s2 _ _ (s1 _ _ f1))) (qbh (w:=ws.getD k Str.empty) (by rw[ycj,yck hl];rfl)) (r1 rfl _ (qar.refl _))
 . rw[ygd.mpr λ_ _=>rfl]
   have ew:(Fam.nms 8 a).map (λk=>V.str (ws.getD k Str.empty))=sV (Tx.wds ws a):=by
     show _=List.map V.str (List.map _ _);rw[ycw];rfl
   rw[ew];refine⟨_,p2,Tx.wds ws a,rfl,rfl,SqL.of qag,qaU (M:=8) (N:=8) (λy hy=>(hw.wd y (Tx.wds_mem hw ha hy)).2.1) (by unfold Tx.wds;rw[ycd];exact l8) (by rw[Tx.lit_plus];decide) (by decide),q _ ((s1.trans s2).trans (qar.new hp2))⟩
abbrev qcu:Stmt:=top 28
theorem qf3:qal ["words", "family"] ["words", "family"] (qaf qcu):=fsc
theorem qf4 {f:Addr}{fd:FuncData}(F:Fun K "show_family" "show_family" qcu f fd)(T:Txt mg):qaM P w K mg base CX0 1 f fd ["words", "family"] qhm:=F.ok qf3 (λvs H Q E h=>absurd h id) (λcdv A outer s H vs Q E hr h=>absurd h id)
abbrev qeq:Stmt:=top 29
theorem qfC:qal ["words", "text", "parts", "names"] ["words", "text"] (qaf qeq):=fsc
def qfE (K:W.Frag):Sp:=sp2 λx y H Q=>∃(p:Addr) (ws:List Str) (a:Nat),x = .ref p/\H p=some (.lst (sV ws))/\Tx.Wds ws/\y = .str (Tx.sT ws a)/\a<2^ws.length/\∀H',qar H H'->Q (.int (a:Nat)) H'
theorem qi2 {f:Addr}{fd:FuncData}(F:Fun K "read_set" "read_set" qeq f fd)(T:Txt mg){f_57:Addr}{fd_57:FuncData}(C_57:Cal P w K mg base "parted" 1 ["text", "sign"] qeY f_57 fd_57){f_56:Addr}{fd_56:FuncData}(C_56:Cal P w K mg base "set_of" 1 ["names"] (qmF K) f_56 fd_56){f_34:Addr}{fd_34:FuncData}(C_34:Cal P w K mg base "read_name" 1 ["words", "word"] (qd8 K) f_34 fd_34):qaM P w K mg base CX0 2 f fd ["words", "text"] (qfE K):=by
 have sc:=qfC;refine F.ok qfC (λvs H Q E h=>by obtain⟨_,_,rfl,_⟩:=h;rfl) (λcdv A outer s H vs Q E hr h=>?_);obtain⟨x0,x1,rfl,h⟩:=h
 refine⟨_,(qab (qat (i:=2) sc.nd rfl (Or.inl rfl) (pec C_57 hr (qaa (pv 1) (qaa qaq qac))))
  (qab (qaA (qai (qav (K:=K) rfl hr.units0) (pv 2) (qaJ (qaa (qd4 T.c_NO_NAMES (by rfl)) qac)) (qao _)) (qad (qah qae)) qak)
  (qab (qbs (i:=3) sc.nd rfl rfl (by rfl) (N:=["word", "words"]) (nt:=1) (caps:=[0]) qax rfl (qaE (pv 2)) (λ_ _ _ _ _=>(qam (i:=0) (show List.Nodup (α:=Str) ["word", "words"] from by decide +kernel) rfl (Or.inl rfl))) qaz (λ_ _ _ _ _=>qaD) (λ_ _ _ _ _=>(pec C_34 hr (qaa (pv 1) (qaa (pv 0) qac)))))
  (qab (qaA (qai (qbW (K:=K) rfl hr.units0) (pv 3) (qas (qbr (P:=P) (w:=w) (K:=K) rfl rfl rfl rfl) (by rfl) T.n_sorted PyProof.Rows.boot_sorted (qaa (qba (qdM (P:=P) (w:=w) (K:=K) rfl rfl rfl rfl) (by rfl) T.n_set PyProof.Rows.boot_set (qaa (pv 3) qac)) qac)) (qao _)) (qad qaY) qak)
  (qad (qah (pec C_56 hr (qaa (pv 3) qac)))))))),?_⟩
 refine rdg (σ':=[some x0,some x1,none,none]) rfl ?_;obtain⟨p,ws,a,rfl,f1,hw,rfl,ha,q⟩:=h;walk_at "rd";refine⟨_,_,rfl,_,_,rfl,rfl,by rw[Tx.lit_plus];rfl,by have:=Tx.sT_len hw ha;omega,λp1 G1 hp1 s1 a1=>?_⟩;rw[Tx.split_sT hw ha] at a1
 (try walk_at "rd")
 refine⟨qau (by simp),λp2 hp2=>?_⟩;generalize g2:upd G1 p2 _=G2;have a2:G2 p2=some (.lst (sV [("-" : Str)])):=qap g2;have s2:=qaj g2 hp2;have a1:=s2 _ _ a1;have s12:=s1.trans s2;refine qgO (SqL.of a1) (SqL.of a2) (qbT _) (qbT _) ?_;rw[qe9];by_cases h0:a=0
 .rw[if_pos h0]
  refine⟨true,by simp,qeK ?_⟩;subst h0;exact q _ s12
 rw[if_neg h0] at a1⊢
 have nd:Tx.wds ws a≠[("-" : Str)]:=λz=>by
  have hm:=hw.wd "-" (Tx.wds_mem hw ha (by rw[z];exact ybd));have:=hm.2.2 45 (by rw[Tx.lit_dash];exact ybd);omega
 refine⟨false,by simpa using nd,qcA ?_⟩;have l8:(Fam.nms 8 a).length<=8:=ybn (ybo _ _) (by simp);have lw:(Tx.wds ws a).length<=8:=by unfold Tx.wds;rw[ycd];exact l8
 refine⟨⟨_,SqL.of a1⟩,ql4 (fs:=sV (Tx.wds ws a)) (λ_=>true) (λv=>match v with | .str w => .int (ws.idxOf w:Nat) | _ => .non) (SqL.of a1) (by rw[qaI];omega) (λx hx H3 s3 R R' r1 r2=>?_) λH3 p3 s3 hp3=>?_⟩
 .obtain⟨w,hw',rfl⟩:=ybu.mp hx
  (try walk_at "rd")
  exact⟨_,_,rfl,p,ws,w,rfl,s3 _ _ (s12 _ _ f1),hw.few,rfl,Tx.wds_mem hw ha hw',r1 rfl _ (qar.refl _)⟩
 have en:((sV (Tx.wds ws a)).filter λ_=>true).map (λv=>match v with | .str w=>V.int (ws.idxOf w:Nat) | _ => .non)=nV (Fam.nms 8 a):=by
  rw[ygd.mpr λ_ _=>rfl,<-Tx.idx_wds hw ha,ycw];unfold nV nI;rw[ycw,ycw];rfl
 rw[en];generalize g3:upd H3 p3 _=G3;have a3:=qap g3;have s3':=(s12.trans s3).trans (qaj g3 hp3);refine⟨p3,_,rfl,SqL.of a3,by rw[nI,ycd];omega,λp4 hp4=>?_⟩;generalize g4:upd G3 p4 _=G4;have a4:=qap g4;have a3:=qaj g4 hp4 _ _ a3;have s4:=s3'.trans (qaj g4 hp4);refine⟨p4,_,rfl,.inr a4,ybn (qcg _) (by rw[nI,ycd];omega),λp5 ms hp5 m1 m2=>?_⟩;rw[qcc m1 m2,ql3 (Fam.nms_rise 8 a)];generalize g5:upd G4 p5 _=G5;have a5:=qap g5;have a3:=qaj g5 hp5 _ _ a3;have s5:=s4.trans (qaj g5 hp5);refine qqH (SqL.of a3) (SqL.of a5) (qie _) (qie _) ⟨false,by rw[qmP];simp,qcA ?_⟩;refine⟨_,rfl,p3,_,rfl,SqL.of a3,λk hk=>(Fam.mem_nms.mp hk).1,?_⟩;rw[Fam.ofN_nms (n:=8) (Tx.lt256 hw ha)];exact q _ s5
abbrev qcr:Stmt:=top 30
theorem qdk:qal ["words", "text", "parts", "family"] ["words", "text"] (qaf qcr):=fsc
theorem qpc {m:Nat}:∀(fs:List Nat) (b:Int),(∀x∈fs,b<(x:Int))->fs.Pairwise (· < ·)->(∀x∈fs,x<2^m)->qnr m b (nV fs)=true
 | [],_,_,_,_=>rfl
 | x::r,b,h1,h2,h3=>by
  have h2:=ybe.mp h2;have h4:=h3 x ybd;show(decide (0<=(x:Int))&&decide ((x:Int)<(2^m:Nat))&&decide (b<(x:Int))&&qnr m (x:Int) (nV r))=true;rw[decide_eq_true (by omega),decide_eq_true (by omega),decide_eq_true (h1 x ybd),qpc r x (λy hy=>by have:=h2.1 y hy;omega) h2.2 λy hy=>h3 y (ybg _ hy)];rfl
def qhp (K:W.Frag):Sp:=sp2 λx y H Q=>∃(p:Addr) (ws:List Str) (fs:List Nat),x = .ref p/\H p=some (.lst (sV ws))/\Tx.Wds ws/\y = .str (Tx.fT ws fs)/\(∀b∈fs,b<2^ws.length)/\fs.Pairwise (· < ·)/\fs.length<=70/\∀p' H',H p'=none->qar H H'->H' p'=some (.lst (nV fs))->Q (.ref p') H'
theorem qf1 {f:Addr}{fd:FuncData}(F:Fun K "read_family" "read_family" qcr f fd)(T:Txt mg){f_57:Addr}{fd_57:FuncData}(C_57:Cal P w K mg base "parted" 1 ["text", "sign"] qeY f_57 fd_57){f_45:Addr}{fd_45:FuncData}(C_45:Cal P w K mg base "read_set" 2 ["words", "text"] (qfE K) f_45 fd_45){f_33:Addr}{fd_33:FuncData}(C_33:Cal P w K mg base "is_family" 3 ["many", "thing"] (qkL K) f_33 fd_33):qaM P w K mg base CX0 4 f fd ["words", "text"] (qhp K):=by
 have sc:=qdk;refine F.ok qdk (λvs H Q E h=>by obtain⟨_,_,rfl,_⟩:=h;rfl) (λcdv A outer s H vs Q E hr h=>?_);obtain⟨x0,x1,rfl,h⟩:=h
 refine⟨_,(qab (qat (i:=2) sc.nd rfl (Or.inl rfl) (pec C_57 hr (qaa (pv 1) (qaa qaq qac))))
  (qab (qaA (qai (qav (K:=K) rfl hr.units0) (pv 2) (qaJ (qaa (qd4 T.c_NO_SETS (by rfl)) qac)) (qao _)) (qad (qah (qaJ qac))) qak)
  (qab (qbs (i:=3) sc.nd rfl rfl (by rfl) (N:=["part", "words"]) (nt:=1) (caps:=[0]) qax rfl (qaE (pv 2)) (λ_ _ _ _ _=>(qam (i:=0) (show List.Nodup (α:=Str) ["part", "words"] from by decide +kernel) rfl (Or.inl rfl))) qaz (λ_ _ _ _ _=>qaD) (λ_ _ _ _ _=>(pec C_45 hr (qaa (pv 1) (qaa (pv 0) qac)))))
  (qab (qaA (qbD (qa9 (pec C_33 hr (qaa (qas (qaB (K:=K) rfl) (by rfl) T.n_len PySem.boot_len (qaa (pv 0) qac)) (qaa (pv 3) qac))))) (qad qaY) qak)
  (qad (qah (pv 3))))))),?_⟩
 refine rdg (σ':=[some x0,some x1,none,none]) rfl ?_;obtain⟨p,ws,fs,rfl,f1,hw,rfl,hb,hr,hl,q⟩:=h;walk_at "rd";refine⟨_,_,rfl,_,_,rfl,rfl,by rw[Tx.lit_space];rfl,by have:=Tx.fT_len hw hb (by omega);omega,λp1 G1 hp1 s1 a1=>?_⟩;rw[Tx.split_fT hw hb] at a1
 (try walk_at "rd")
 refine⟨qau (by simp),λp2 hp2=>?_⟩;generalize g2:upd G1 p2 _=G2;have a2:G2 p2=some (.lst (sV [("none" : Str)])):=qap g2;have s2:=qaj g2 hp2;have a1:=s2 _ _ a1;have s12:=s1.trans s2;refine qgO (SqL.of a1) (SqL.of a2) (qbT _) (qbT _) ?_;rw[qe9];by_cases h0:fs=[]
 .rw[if_pos h0]
  refine⟨true,by simp,qeK ⟨qau (by simp),λp3 hp3=>?_⟩⟩;subst h0;exact q _ _ (qaC s12 hp3) (s12.trans (qar.new hp3)) qag
 rw[if_neg h0] at a1⊢
 have ne:fs.map (Tx.sT ws)≠[("none" : Str)]:=λz=>by
  have hm:("none" : Str)∈fs.map (Tx.sT ws):=by rw[z];exact ybd
  obtain⟨b,hb',e⟩:=ybu.mp hm;exact Tx.sT_none hw (hb b hb') e
 refine⟨false,by simpa using ne,qcA ?_⟩;have lz:(sV (fs.map (Tx.sT ws))).length=fs.length:=by rw[qaI,ycd]
 refine⟨⟨_,SqL.of a1⟩,qfL (xs:=sV (fs.map (Tx.sT ws))) (λi ys H3=>qar G2 H3/\ys=nV (fs.take i)) ⟨qar.refl _,rfl⟩ (by rw[lz];exact qau (by omega)) (λi ys H3 hi ⟨s,e⟩=>⟨SqL.of (s _ _ a1),by rw[e,qaP,yfb];omega⟩) (λi x ys H3 hx ⟨s3,e3⟩ R R' r1 r2=>?_) λys H3 ⟨s3,e3⟩ p3 hp3=>?_⟩
 .rw[ycp,ycp] at hx
  cases eb:fs[i]? with
  | none=>rw[eb] at hx;cases hx
  | some b =>
   rw[eb] at hx;cases hx
   (try walk_at "rd")
   refine⟨_,_,rfl,p,ws,b,rfl,s3 _ _ (s12 _ _ f1),hw,rfl,hb b (ycl eb),λH4 s4=>r1 _ _ ⟨s3.trans s4,?_⟩⟩;rw[e3,ygq,eb];simp[nV,nI]
 rw[lz,ydi] at e3;subst e3;generalize g3:upd H3 p3 _=G3;have a3:=qap g3;have s4:=(s12.trans s3).trans (qaj g3 hp3);refine⟨_,.inl (SqL.of (s4 _ _ f1)),?_⟩;rw[qaI];refine⟨_,_,rfl,ws.length,rfl,hw.few,.inl ⟨p3,nV fs,rfl,a3,by rw[qaP];omega,λx hx=>?_,?_⟩⟩
 .obtain⟨b,_,rfl⟩:=qo6 hx
  exact⟨"int",rfl⟩
 rw[qpc fs (-1) (λx _=>by omega) hr hb,qaP,decide_eq_true (show fs.length<=70 from hl)];refine⟨true,rfl,?_⟩;rw[if_neg (by decide)];exact q p3 _ (qaC (s12.trans s3) hp3) s4 a3
abbrev qiN:Stmt:=top 13
theorem qjv:qal ["one", "other"] ["one", "other"] (qaf qiN):=fsc
def qk7:Sp:=sp2 λx y H Q=>∃a b:Nat,x = .int a/\y = .int b/\Q (.bl (decide (Fam.sub b a))) H
theorem qn7 {f:Addr}{fd:FuncData}(F:Fun K "holds" "holds" qiN f fd)(T:Txt mg)  : qaM P w K mg base CX0 1 f fd ["one", "other"] qk7:=by
 have sc:=qjv;refine F.ok qjv (λvs H Q E h=>by obtain⟨_,_,rfl,_⟩:=h;rfl) (λcdv A outer s H vs Q E hr h=>?_);obtain⟨x0,x1,rfl,h⟩:=h;refine⟨_,(qad (qah (qec (qav (K:=K) rfl hr.units0) (qan qce (pv 0) (pv 1)) (pv 1) (qao _)))),?_⟩;refine rdg (σ':=[some x0,some x1]) rfl ?_;obtain⟨a,b,rfl,rfl,q⟩:=h;walk_at "rd";rw[qdo,show decide (((a&&&b:Nat):Int)=(b:Int))=decide (Fam.sub b a) from decide_eq_decide.mpr (by unfold Fam.sub;omega)];exact q
abbrev qjb:Stmt:=top 14
theorem qjR:qal ["one", "other"] ["one", "other"] (qaf qjb):=fsc
def qiL:Sp:=sp2 λx y H Q=>∃a b:Nat,x = .int a/\y = .int b/\Q (.bl (decide (Fam.mt a b))) H
theorem qol {f:Addr}{fd:FuncData}(F:Fun K "meets" "meets" qjb f fd)(T:Txt mg)  : qaM P w K mg base CX0 1 f fd ["one", "other"] qiL:=by
 have sc:=qjR;refine F.ok qjR (λvs H Q E h=>by obtain⟨_,_,rfl,_⟩:=h;rfl) (λcdv A outer s H vs Q E hr h=>?_);obtain⟨x0,x1,rfl,h⟩:=h;refine⟨_,(qad (qah (qec (qbW (K:=K) rfl hr.units0) (qan qce (pv 0) (pv 1)) qae (qao _)))),?_⟩;refine rdg (σ':=[some x0,some x1]) rfl ?_;obtain⟨a,b,rfl,rfl,q⟩:=h;walk_at "rd"
 rw[qdo,show(!decide (((a&&&b:Nat):Int)=0))=decide (Fam.mt a b) from by
  rw[<-decide_not];exact decide_eq_decide.mpr (by unfold Fam.mt;omega)]
 exact q
abbrev qkG:Stmt:=top 15
theorem qlw:qal ["many", "one", "whole_ground"] ["many", "one"] (qaf qkG):=fsc
def qpu:Sp:=sp2 λx y H Q=>∃m a:Nat,x = .int m/\y = .int a/\m<=8/\a<2^m/\Q (.int (Fam.rst m a:Nat)) H
theorem qrd {m a:Nat}(h:a<2^m):Builtin.bitAnd (1*2^(m:Int).toNat-1) (Builtin.bitNot a)=((Fam.rst m a:Nat):Int):=by
 rw[Int.one_mul,yfg,qgS,bitAnd_not];have e:(((2^m:Nat):Int)-1)=((2^m-1:Nat):Int):=by have:=yah m;omega
 rw[e,qdo,Nat.and_comm,Nat.and_two_pow_sub_one_eq_mod,Nat.mod_eq_of_lt h];unfold Fam.rst;omega
theorem qqf {f:Addr}{fd:FuncData}(F:Fun K "rest" "rest" qkG f fd)(T:Txt mg)  : qaM P w K mg base CX0 1 f fd ["many", "one"] qpu:=by
 have sc:=qlw;refine F.ok qlw (λvs H Q E h=>by obtain⟨_,_,rfl,_⟩:=h;rfl) (λcdv A outer s H vs Q E hr h=>?_);obtain⟨x0,x1,rfl,h⟩:=h
 refine⟨_,(qab (qat (i:=2) sc.nd rfl (Or.inl rfl) (qan qic (qan qa0 qae (pv 0)) qae))
  (qad (qah (qan qce (pv 2) (qp5 qsi (pv 1)))))),?_⟩
 refine rdg (σ':=[some x0,some x1,none]) rfl ?_;obtain⟨m,a,rfl,rfl,hm,ha,q⟩:=h;walk_at "rd";refine⟨qaK (by omega) (by omega) (by decide) (by decide),?_⟩;rw[qrd ha];exact q
abbrev qnd:Stmt:=top 20
theorem qll:qal ["family", "one", "other"] ["family", "one"] (qaf qnd):=fsc
def qhT (K:W.Frag):Sp:=sp2 λx y H Q=>∃(p:Addr) (fs:List Nat) (a:Nat),x = .ref p/\SqL K H p (nV fs)/\y = .int a/\Q (.bl (Fam.sayP fs a)) H
theorem qpN {α:Type}{fs:List α}{f:α->Bool}{i:Nat}{b:α}(h:fs[i]?=some b)(hb:f b=true):fs.any f=true:=ybl.mpr ⟨b,ycl h,hb⟩
theorem qoh {α:Type}{fs:List α}{f:α->Bool}{i:Nat}{b:α}(h:fs[i]?=some b)(h0:(fs.take i).any f=false)(hb:f b=false):(fs.take (i+1)).any f=false:=by
 rw[ygq,h,List.any_append,h0];simpa using hb
theorem qpP {f:Addr}{fd:FuncData}(F:Fun K "says" "says" qnd f fd)(T:Txt mg){f_62:Addr}{fd_62:FuncData}(C_62:Cal P w K mg base "holds" 1 ["one", "other"] qk7 f_62 fd_62):qaM P w K mg base CX0 2 f fd ["family", "one"] (qhT K):=by
 have sc:=qll;refine F.ok qll (λvs H Q E h=>by obtain⟨_,_,rfl,_⟩:=h;rfl) (λcdv A outer s H vs Q E hr h=>?_);obtain⟨x0,x1,rfl,h⟩:=h
 refine⟨_,(qab (qaZ PassesOwn.never rfl (qaE (pv 0)) (qam (i:=2) sc.nd rfl (Or.inl rfl)) (qad (qaA (qa9 (pec C_62 hr (qaa (pv 1) (qaa (pv 2) qac)))) (qad (qah qbg)) qak)))
  (qad (qah qbg))),?_⟩
 refine rdg (σ':=[some x0,some x1,none]) rfl ?_;obtain⟨p,fs,a,rfl,hq,rfl,q⟩:=h;walk_at "rd";refine⟨⟨_,hq⟩,qhF (λi σ H'=>∃v,σ=[some (.ref p),some (.int a),v]/\H'=H/\(fs.take i).any (λb=>decide (Fam.sub b a))=false) ⟨none,rfl,rfl,rfl⟩ (λi σ H' _ ⟨v,_,e,_⟩=>e▸hq) ?_ ?_⟩
 .rintro i b σ H' hb ⟨v,rfl,rfl,h0⟩ N hN
  (try walk_at "rd")
  refine⟨_,_,rfl,a,b,rfl,rfl,_,rfl,qkN (λhc=>?_) λhc=>hN _ _ ⟨_,rfl,rfl,qoh hb h0 hc⟩⟩;rw[show Fam.sayP fs a=true from qpN hb hc] at q;exact q
 .rintro σ H' ⟨v,rfl,rfl,h0⟩
  rw[ydi] at h0;rw[show Fam.sayP fs a=false from h0] at q;exact q
abbrev qiY:Stmt:=top 19
theorem qjA:qal ["some", "found", "one"] ["some"] (qaf qiY):=fsc
def qlh (K:W.Frag):Sp:=sp1 λx H Q=>∃(p:Addr) (fs:List Nat),x = .ref p/\SqL K H p (nV fs)/\fs.length<=63/\∀H' p',H p'=none->qar H H'->H' p'=some (.lst (nV (Fam.mins (sd fs))))->Q (.ref p') H'
theorem qr9 (fs:List Nat){ms:List Int}(m1:ms.Perm (qet (nI fs)))(m2:ms.Pairwise (·<=·)):(sd fs).length<=fs.length:=by
 have:=m1.length_eq;rw[qcc m1 m2] at this;have h2:=qcg (nI fs);simp at this h2;omega
theorem qnH {f:Addr}{fd:FuncData}(F:Fun K "least" "least" qiY f fd)(T:Txt mg){f_69:Addr}{fd_69:FuncData}(C_69:Cal P w K mg base "says" 2 ["family", "one"] (qhT K) f_69 fd_69):qaM P w K mg base CX0 3 f fd ["some"] (qlh K):=by
 have sc:=qjA;refine F.ok qjA (λvs H Q E h=>by obtain⟨_,rfl,_⟩:=h;rfl) (λcdv A outer s H vs Q E hr h=>?_);obtain⟨x0,rfl,h⟩:=h
 refine⟨_,(qab (qat (i:=1) sc.nd rfl (Or.inl rfl) (qaJ qac))
  (qab (qaZ PassesOwn.never rfl (qaE (qas (qbr (P:=P) (w:=w) (K:=K) rfl rfl rfl rfl) (by rfl) T.n_sorted PyProof.Rows.boot_sorted (qaa (qba (qdM (P:=P) (w:=w) (K:=K) rfl rfl rfl rfl) (by rfl) T.n_set PyProof.Rows.boot_set (qaa (pv 0) qac)) qac))) (qam (i:=2) sc.nd rfl (Or.inl rfl)) (qad (qaA (qbD (qa9 (pec C_69 hr (qaa (pv 1) (qaa (pv 2) qac))))) (qad (qco (qbj ygw ygx ygy qbI (pv 1) (qaa (pv 2) qac)))) qak)))
  (qad (qah (pv 1))))),?_⟩
 refine rdg (σ':=[some x0,none,none]) rfl ?_;obtain⟨p,fs,rfl,hq,hl,q⟩:=h;walk_at "rd";refine⟨qau (by simp),λp0 hp0=>?_⟩;generalize g0:upd H p0 _=G0;have a0:=qap g0;have t0:=qaj g0 hp0;refine⟨p,_,rfl,t0.seq hq,by simp;omega,λp1 hp1=>?_⟩;generalize g1:upd G0 p1 _=G1;have a1:=qap g1;have t1:=t0.trans (qaj g1 hp1);have n01:=qdX hp1 a0;have a0:=qaj g1 hp1 _ _ a0;refine⟨p1,_,rfl,.inr a1,ybn (qcg _) (by simp;omega),λp2 ms hp2 m1 m2=>?_⟩;have lsd:=qr9 fs m1 m2;rw[qcc m1 m2];generalize g2:upd G1 p2 _=G2;have a2:=qap g2;have t2:=t1.trans (qaj g2 hp2);have n02:=qdX hp2 a0;have a0:=qaj g2 hp2 _ _ a0;refine⟨p2,rfl,⟨_,SqL.of a2⟩,?_⟩;refine qhF (fs:=sd fs) (λi σ H3=>∃v,σ=[some (.ref p),some (.ref p0),v]/\H3=upd G2 p0 (.lst (nV (Fam.pick (λ_=>true) ((sd fs).take i))))) ⟨none,rfl,?_⟩ ?_ ?_ ?_
 .exact qe2 a0
 .rintro i σ H3 hi ⟨v,rfl,rfl⟩
  exact SqL.of (by rw[qay (Ne.symm n02)];exact a2)
 .rintro i b σ H3 hbi ⟨v,rfl,rfl⟩ N hN
  have hlen:(Fam.pick (λ_=>true) ((sd fs).take i)).length<=1000:=ybn (Fam.pick_len _ _) (by rw[yfb];omega);have es:(sd fs).take (i+1)=(sd fs).take i++[b]:=by rw[ygq,hbi];rfl
  have fin:∀L,Fam.pick (λ_=>true) ((sd fs).take (i+1))=L->N [some (.ref p),some (.ref p0),some (.int b)] (upd G2 p0 (.lst (nV L))):=λL e=>hN _ _ ⟨_,rfl,by rw[e]⟩;rw[es,Fam.pick_snoc] at fin;generalize Fam.pick (λ_=>true) ((sd fs).take i)=L at fin hlen⊢
  (try walk_at "rd")
  refine⟨_,_,rfl,p0,L,b,rfl,SqL.of qag,rfl,?_⟩
  (try walk_at "rd")
  cases hs:Fam.sayP L b with
  | true =>
   rw[if_neg (by decide)];exact fin L (by rw[if_neg];rw[show(L.any λc=>decide (Fam.sub c b))=true from hs];decide)
  | false =>
   rw[if_pos rfl];refine⟨qcv (by rw[qaP];omega),?_⟩;rw[qfc];exact fin (L++[b]) (by rw[if_pos];rw[show(L.any λc=>decide (Fam.sub c b))=false from hs];decide)
 .rintro σ H3 ⟨v,rfl,rfl⟩
  rw[ydi]
  (try walk_at "rd")
  exact q _ p0 hp0 (t2.upd hp0) qag
abbrev qiT:Stmt:=top 21
theorem qjK:qal ["many", "family"] ["many", "family"] (qaf qiT):=fsc
theorem qjO {m:Nat}{fs:List Nat}(hr:fs.Pairwise (· < ·))(hb:∀b∈fs,b<2^m):(Fam.rsts m fs).Pairwise (· < ·):=by
 unfold Fam.rsts;rw[ybv,ybw];refine List.Pairwise.imp_of_mem (λ{a b} ha hb2 h=>?_) hr;have:=hb a ha;have:=hb b hb2;unfold Fam.rst;omega
theorem quF {m:Nat}{fs:List Nat}:∀b∈Fam.rsts m fs,b<2^m:=λb hb=>by
 unfold Fam.rsts at hb;obtain⟨a,_,rfl⟩:=ybu.mp (ybt.mp hb);exact Fam.rst_lt m a
theorem rsL_Fam.rsts {m:Nat}{fs:List Nat}(hb:∀b∈fs,b<2^m):Fam.rsts m (Fam.rsts m fs)=fs:=by
 unfold Fam.rsts;rw[ygs,yaq,ycw]
 conv=>rhs;rw[<-yfz fs]
 exact yci λb h=>Fam.rst_rst (hb b h)
theorem qsW {m:Nat}{fs:List Nat}(hr:fs.Pairwise (· < ·))(hb:∀b∈fs,b<2^m):sd (fs.map (Fam.rst m))=Fam.rsts m fs:=(qq4 (qjO hr hb) λx=>by unfold Fam.rsts;rw[ybt]).symm
def qi0 (K:W.Frag):Sp:=sp2 λx y H Q=>∃(m:Nat) (p:Addr) (fs:List Nat),x = .int m/\m<=8/\y = .ref p/\SqL K H p (nV fs)/\fs.Pairwise (· < ·)/\(∀b∈fs,b<2^m)/\fs.length<=63 /\
 ∀H' p',H p'=none->qar H H'->H' p'=some (.lst (nV (Fam.rsts m fs)))->Q (.ref p') H'
theorem qnC {f:Addr}{fd:FuncData}(F:Fun K "rests" "rests" qiT f fd)(T:Txt mg){f_68:Addr}{fd_68:FuncData}(C_68:Cal P w K mg base "rest" 1 ["many", "one"] qpu f_68 fd_68):qaM P w K mg base CX0 2 f fd ["many", "family"] (qi0 K):=by
 have sc:=qjK;refine F.ok qjK (λvs H Q E h=>by obtain⟨_,_,rfl,_⟩:=h;rfl) (λcdv A outer s H vs Q E hr h=>?_);obtain⟨x0,x1,rfl,h⟩:=h;refine⟨_,(qad (qah (qas (qbr (P:=P) (w:=w) (K:=K) rfl rfl rfl rfl) (by rfl) T.n_sorted PyProof.Rows.boot_sorted (qaa (qaH (N:=["one", "many"]) (nt:=1) (caps:=[0]) qax rfl (qaE (pv 1)) (λ_ _ _ _ _=>(qam (i:=0) (show List.Nodup (α:=Str) ["one", "many"] from by decide +kernel) rfl (Or.inl rfl))) qaz (λ_ _ _ _ _=>qaD) (λ_ _ _ _ _=>(pec C_68 hr (qaa (pv 1) (qaa (pv 0) qac))))) qac)))),?_⟩;refine rdg (σ':=[some x0,some x1]) rfl ?_;obtain⟨m,p,fs,rfl,hm,rfl,hq,hr,hb,hl,q⟩:=h;walk_at "rd";refine⟨⟨_,hq⟩,qbv (λ_=>true) (λb => .int (Fam.rst m b:Nat)) hq (by omega) (λb hbm H1 s1 R R' r1 r2=>?_) λH1 p1 s1 hp1=>?_⟩
 . (try walk_at "rd")
   exact⟨_,_,rfl,m,b,rfl,rfl,hm,hb b hbm,r1 rfl _ (qar.refl _)⟩
 have e:(fs.filter λ_=>true).map (λb=>V.int (Fam.rst m b:Nat))=nV (fs.map (Fam.rst m)):=by
   rw[ygd.mpr λ_ _=>rfl];simp
 rw[e];generalize e1:upd H1 p1 _=H2;have f1:=qap e1;have s2:=s1.trans (qaj e1 hp1);refine⟨p1,_,rfl,.inl (SqL.of f1),by simp;omega,λl ms hl2 m1 m2=>?_⟩
 have nd:(fs.map (Fam.rst m)).Nodup:=by
   have:=(qjO hr hb).imp (λ{a b} (h:a<b)=>ydx h);unfold Fam.rsts at this;exact(ybv.mp this).imp λh=>Ne.symm h
 rw[qmT nd m1 m2,qsW hr hb];exact q _ _ (qaC s2 hl2) (s2.trans (qar.new hl2)) qag
abbrev qb8:Stmt:=top 44
theorem qcR:qal ["family", "one", "other"] ["family", "one"] (qaf qb8):=fsc
def oV (o:Option Nat):V:=match o with | some b => .int (b:Nat) | none => .non
def qm4 (K:W.Frag):Sp:=sp2 λx y H Q=>∃(p:Addr) (fs:List Nat) (a:Nat),x = .ref p/\SqL K H p (nV fs)/\y = .int a/\Q (oV (fs.find? λb=>!decide (Fam.mt a b))) H
theorem qlm {fs:List Nat}{f:Nat->Bool}{i b:Nat}(h:fs[i]?=some b)(h0:(fs.take i).find? f=none)(hb:f b=false):(fs.take (i+1)).find? f=none:=by
 rw[ygq,h,yhl,h0];simp[hb]
theorem qmi {fs:List Nat}{f:Nat->Bool}{i b:Nat}(h:fs[i]?=some b)(h0:(fs.take i).find? f=none)(hb:f b=true):fs.find? f=some b:=by
 have e:fs=fs.take i++b::fs.drop (i+1):=by
  have hi:=(ycm.mp h).1;have:=ydl i fs;rw[yhk hi] at this;rw[(ycm.mp h).2] at this;exact this.symm
 rw[e,yhl,h0];simp[hb]
theorem qfW {f:Addr}{fd:FuncData}(F:Fun K "first_missed" "first_missed" qb8 f fd)(T:Txt mg){f_63:Addr}{fd_63:FuncData}(C_63:Cal P w K mg base "meets" 1 ["one", "other"] qiL f_63 fd_63):qaM P w K mg base CX0 2 f fd ["family", "one"] (qm4 K):=by
 have sc:=qcR;refine F.ok qcR (λvs H Q E h=>by obtain⟨_,_,rfl,_⟩:=h;rfl) (λcdv A outer s H vs Q E hr h=>?_);obtain⟨x0,x1,rfl,h⟩:=h
 refine⟨_,(qab (qaZ PassesOwn.never rfl (qaE (pv 0)) (qam (i:=2) sc.nd rfl (Or.inl rfl)) (qad (qaA (qbD (qa9 (pec C_63 hr (qaa (pv 1) (qaa (pv 2) qac))))) (qad (qah (pv 2))) qak)))
  (qad (qah qdU))),?_⟩
 refine rdg (σ':=[some x0,some x1,none]) rfl ?_;obtain⟨p,fs,a,rfl,hq,rfl,q⟩:=h;walk_at "rd";refine⟨⟨_,hq⟩,qhF (λi σ H'=>∃v,σ=[some (.ref p),some (.int a),v]/\H'=H/\(fs.take i).find? (λb=>!decide (Fam.mt a b))=none) ⟨none,rfl,rfl,rfl⟩ (λi σ H' _ ⟨v,_,e,_⟩=>e▸hq) ?_ ?_⟩
 .rintro i b σ H' hb ⟨v,rfl,rfl,h0⟩ N hN
  (try walk_at "rd")
  refine⟨_,_,rfl,a,b,rfl,rfl,_,rfl,?_⟩;cases hc:decide (Fam.mt a b) with
  | true =>
   rw[if_neg (by decide)];exact hN _ _ ⟨_,rfl,rfl,qlm hb h0 (by rw[hc];rfl)⟩
  | false =>
   rw[if_pos rfl];rw[qmi hb h0 (by rw[hc];rfl)] at q;exact q
 .rintro σ H' ⟨v,rfl,rfl,h0⟩
  rw[ydi] at h0;rw[h0] at q;exact q
abbrev qlX:Stmt:=top 42
theorem qlC:qal ["many", "family", "found", "one"] ["many", "family"] (qaf qlX):=fsc
theorem qou (fs:List Nat)(a:Nat):(fs.find? λb=>!decide (Fam.mt a b))=none↔Fam.hitP fs a=true:=by
 rw[yby,Fam.hitP_iff];simp
def qmB (K:W.Frag):Sp:=sp2 λx y H Q=>∃(m:Nat) (p:Addr) (fs:List Nat),x = .int m/\m<=8/\y = .ref p/\H p=some (.lst (nV fs))/\∀H' p',H p'=none->qar H H'->H' p'=some (.lst (nV (Fam.hits m fs)))->Q (.ref p') H'
theorem qp7 {f:Addr}{fd:FuncData}(F:Fun K "hits" "hits" qlX f fd)(T:Txt mg){f_69:Addr}{fd_69:FuncData}(C_69:Cal P w K mg base "says" 2 ["family", "one"] (qhT K) f_69 fd_69){f_11:Addr}{fd_11:FuncData}(C_11:Cal P w K mg base "first_missed" 2 ["family", "one"] (qm4 K) f_11 fd_11):qaM P w K mg base CX0 3 f fd ["many", "family"] (qmB K):=by
 have sc:=qlC;refine F.ok qlC (λvs H Q E h=>by obtain⟨_,_,rfl,_⟩:=h;rfl) (λcdv A outer s H vs Q E hr h=>?_);obtain⟨x0,x1,rfl,h⟩:=h
 refine⟨_,(qab (qat (i:=2) sc.nd rfl (Or.inl rfl) (qaJ qac))
  (qab (qaZ PassesOwn.never rfl (qaG (by rfl) T.n_range (qaa (qan qa0 qae (pv 0)) qac)) (qam (i:=3) sc.nd rfl (Or.inl rfl)) (qad (qaA (PW.pt (qcB (qbD (qa9 (pec C_69 hr (qaa (pv 2) (qaa (pv 3) qac))))) (qbO (qai qhK (pec C_11 hr (qaa (pv 1) (qaa (pv 3) qac))) qdU (qao _))))) (qad (qco (qbj ygw ygx ygy qbI (pv 2) (qaa (pv 3) qac)))) qak)))
  (qad (qah (pv 2))))),?_⟩
 refine rdg (σ':=[some x0,some x1,none,none]) rfl ?_;obtain⟨m,p,fs,rfl,hm,rfl,f1,q⟩:=h;walk_at "rd";rw[qaQ];have pp:=yah m;have p8:2^m<=256:=yaf (n:=2) (by decide) hm;refine⟨qau (by simp),λp0 hp0=>⟨qaK (by omega) (by omega) (by decide) (by decide),by omega,by omega,?_⟩⟩;rw[yfg];generalize g0:upd H p0 _=G0;have a0:=qap g0;have t0:=qaj g0 hp0;have n0:=qdX hp0 f1;refine qeM (λi σ H3=>∃v,σ=[some (.int m),some (.ref p),some (.ref p0),v]/\H3=upd G0 p0 (.lst (nV (Fam.pick (Fam.hitP fs) (List.range i))))) ⟨_,rfl,qe2 a0⟩ ?_ ?_
 .rintro i σ H3 hi ⟨v,rfl,rfl⟩ N hN
  have hlen:(Fam.pick (Fam.hitP fs) (List.range i)).length<=1000:=ybn (Fam.pick_len _ _) (by simp;omega);have fin:∀L,Fam.pick (Fam.hitP fs) (List.range (i+1))=L->N [some (.int m),some (.ref p),some (.ref p0),some (.int (i:Nat))] (upd G0 p0 (.lst (nV L))):=λL e=>hN _ _ ⟨_,rfl,by rw[e]⟩;rw[yds,Fam.pick_snoc] at fin;generalize Fam.pick (Fam.hitP fs) (List.range i)=L at fin hlen⊢;have fp:upd G0 p0 (.lst (nV L)) p=some (.lst (nV fs)):=by rw[qay n0];exact t0 _ _ f1
  (try walk_at "rd")
  refine⟨_,_,rfl,p0,L,i,rfl,SqL.of qag,rfl,?_⟩
  (try walk_at "rd")
  cases hs:Fam.sayP L i with
  | true =>
   rw[if_neg (by decide)];exact fin L (by rw[if_neg];rw[show(L.any λc=>decide (Fam.sub c i))=true from hs];simp)
  | false =>
   rw[if_pos rfl];refine⟨_,_,rfl,p,fs,i,rfl,SqL.of fp,rfl,?_⟩;have hs':(L.any λc=>decide (Fam.sub c i))=false:=hs;have hf:=qou fs i;cases ho:(fs.find? λb=>!decide (Fam.mt i b)) with
   | none =>
    have hh:=hf.mp ho;refine⟨rfl,?_⟩;rw[if_pos (show oV none=V.non from rfl)];refine⟨qaX qag,qjn.mpr ⟨qcv (by(try rw[qaP]);omega),?_⟩⟩;rw[qfc];exact fin (L++[i]) (by rw[if_pos];rw[hs',hh];rfl)
   | some b =>
    have hh:Fam.hitP fs i=false:=by
     cases hq:Fam.hitP fs i with
     | false=>rfl
     | true=>rw[hf.mpr hq] at ho;cases ho
    refine⟨rfl,?_⟩;rw[if_neg (by intro z;cases z)];exact fin L (by rw[if_neg];rw[hs',hh];decide)
 .rintro σ H3 ⟨v,rfl,rfl⟩
  (try walk_at "rd")
  exact q _ p0 hp0 (t0.upd hp0) qag
abbrev qdm:Stmt:=top 61
theorem qhI:qal ["family", "k"] ["family", "k"] (qaf qdm):=fsc
theorem qhx {f:Addr}{fd:FuncData}(F:Fun K "always_in" "always_in" qdm f fd)(T:Txt mg):qaM P w K mg base CX0 1 f fd ["family", "k"] qhm:=F.ok qhI (λvs H Q E h=>absurd h id) (λcdv A outer s H vs Q E hr h=>absurd h id)
abbrev qcJ:Stmt:=top 62
theorem qg4:qal ["family", "k"] ["family", "k"] (qaf qcJ):=fsc
theorem qhd {f:Addr}{fd:FuncData}(F:Fun K "always_out" "always_out" qcJ f fd)(T:Txt mg):qaM P w K mg base CX0 1 f fd ["family", "k"] qhm:=F.ok qg4 (λvs H Q E h=>absurd h id) (λcdv A outer s H vs Q E hr h=>absurd h id)
abbrev qgD:Stmt:=top 63
theorem qm8:qal ["one", "other"] ["one", "other"] (qaf qgD):=fsc
theorem ql8 {f:Addr}{fd:FuncData}(F:Fun K "either" "either" qgD f fd)(T:Txt mg):qaM P w K mg base CX0 1 f fd ["one", "other"] qhm:=F.ok qm8 (λvs H Q E h=>absurd h id) (λcdv A outer s H vs Q E hr h=>absurd h id)
abbrev qlt:Stmt:=top 64
theorem qpV:qal ["one", "other", "joined", "a"] ["one", "other"] (qaf qlt):=fsc
theorem qpS {f:Addr}{fd:FuncData}(F:Fun K "both" "both" qlt f fd)(T:Txt mg):qaM P w K mg base CX0 1 f fd ["one", "other"] qhm:=F.ok qpV (λvs H Q E h=>absurd h id) (λcdv A outer s H vs Q E hr h=>absurd h id)
abbrev qa5:Stmt:=top 45
theorem qcZ:qal ["family", "one", "k", "other"] ["family", "one", "k"] (qaf qa5):=fsc
theorem qc1 {f:Addr}{fd:FuncData}(F:Fun K "first_met_by_alone" "first_met_by_alone" qa5 f fd)(T:Txt mg):qaM P w K mg base CX0 1 f fd ["family", "one", "k"] qhm:=F.ok qcZ (λvs H Q E h=>absurd h id) (λcdv A outer s H vs Q E hr h=>absurd h id)
abbrev qgR:Stmt:=top 43
theorem qmy:qal ["family", "one", "missed", "own", "k", "other"] ["family", "one"] (qaf qgR):=fsc
theorem qlc {f:Addr}{fd:FuncData}(F:Fun K "looked" "looked" qgR f fd)(T:Txt mg):qaM P w K mg base CX0 1 f fd ["family", "one"] qhm:=F.ok qmy (λvs H Q E h=>absurd h id) (λcdv A outer s H vs Q E hr h=>absurd h id)
abbrev qbA:Stmt:=top 48
theorem qek:qal ["many", "one", "other", "s"] ["many", "one", "other"] (qaf qbA):=fsc
theorem qee {f:Addr}{fd:FuncData}(F:Fun K "first_left_out" "first_left_out" qbA f fd)(T:Txt mg):qaM P w K mg base CX0 1 f fd ["many", "one", "other"] qhm:=F.ok qek (λvs H Q E h=>absurd h id) (λcdv A outer s H vs Q E hr h=>absurd h id)
abbrev qmL:Stmt:=top 47
theorem qqI:qal ["many", "one", "other", "a", "b", "s"] ["many", "one", "other"] (qaf qmL):=fsc
theorem qpK {f:Addr}{fd:FuncData}(F:Fun K "held" "held" qmL f fd)(T:Txt mg):qaM P w K mg base CX0 1 f fd ["many", "one", "other"] qhm:=F.ok qqI (λvs H Q E h=>absurd h id) (λcdv A outer s H vs Q E hr h=>absurd h id)
abbrev qeb:Stmt:=top 50
theorem qfv:qal ["many", "family"] ["many", "family"] (qaf qeb):=fsc
def qdI (K:W.Frag):Sp:=sp2 λx y H Q=>∃(m:Nat) (p:Addr) (fs:List Nat),x = .int m/\m<=8/\y = .ref p/\H p=some (.lst (nV fs))/\∀H' p',H p'=none->qar H H'->H' p'=some (.lst (bV (tab (2^m) (Fam.sayP fs))))->Q (.ref p') H'
theorem qjg {f:Addr}{fd:FuncData}(F:Fun K "table_of" "table_of" qeb f fd)(T:Txt mg){f_69:Addr}{fd_69:FuncData}(C_69:Cal P w K mg base "says" 2 ["family", "one"] (qhT K) f_69 fd_69):qaM P w K mg base CX0 3 f fd ["many", "family"] (qdI K):=by
 have sc:=qfv;refine F.ok qfv (λvs H Q E h=>by obtain⟨_,_,rfl,_⟩:=h;rfl) (λcdv A outer s H vs Q E hr h=>?_);obtain⟨x0,x1,rfl,h⟩:=h;refine⟨_,(qad (qah (qaH (N:=["s", "family"]) (nt:=1) (caps:=[1]) qax rfl (qaG (by rfl) T.n_range (qaa (qan qa0 qae (pv 0)) qac)) (λ_ _ _ _ _=>(qam (i:=0) (show List.Nodup (α:=Str) ["s", "family"] from by decide +kernel) rfl (Or.inl rfl))) qaz (λ_ _ _ _ _=>qaD) (λ_ _ _ _ _=>(pec C_69 hr (qaa (pv 1) (qaa (pv 0) qac))))))),?_⟩;refine rdg (σ':=[some x0,some x1]) rfl ?_;obtain⟨m,p,fs,rfl,hm,rfl,f1,q⟩:=h;walk_at "rd";have p8:=yaf (n:=2) (by decide) hm;rw[show 2^8=256 from rfl] at p8;have pp:=yah m;rw[qaQ];refine⟨qaK (by omega) (by omega) (by decide) (by decide),by omega,by omega,?_⟩;rw[yfg];refine qcQ (λ_=>true) (λk => .bl (Fam.sayP fs k)) (by omega) (λk hk H1 sm R R' r1 r2=>?_) λH1 p1 sm hp=>?_
 . (try walk_at "rd")
   exact⟨_,_,rfl,p,fs,k,rfl,SqL.of (sm _ _ f1),rfl,r1 rfl _ (qar.refl _)⟩
 . rw[qrg]
   exact q _ p1 (qaC sm hp) (sm.trans (qar.new hp)) qag
abbrev qfw:Stmt:=top 51
theorem qgd:qal ["many", "family"] ["many", "family"] (qaf qfw):=fsc
def qjH (K:W.Frag):Sp:=sp2 λx y H Q=>∃(m:Nat) (p:Addr) (fs:List Nat),x = .int m/\m<=5/\y = .ref p/\H p=some (.lst (nV fs))/\∀H' p',H p'=none->qar H H'->H' p'=some (.lst (nV (Fam.rsts m (Fam.hits m fs))))->Q (.ref p') H'
theorem quY {m:Nat}(hm:m<=8):2^m<=256:=yaf (n:=2) (by decide) hm
theorem qnB (m:Nat)(fs:List Nat):(Fam.hits m fs).length<=2^m:=ybn (Fam.pick_len _ _) (by simp)
theorem qka {f:Addr}{fd:FuncData}(F:Fun K "noes_by" "noes_by" qfw f fd)(T:Txt mg){f_65:Addr}{fd_65:FuncData}(C_65:Cal P w K mg base "rests" 2 ["many", "family"] (qi0 K) f_65 fd_65){f_70:Addr}{fd_70:FuncData}(C_70:Cal P w K mg base "hits" 3 ["many", "family"] (qmB K) f_70 fd_70):qaM P w K mg base CX0 4 f fd ["many", "family"] (qjH K):=by
 have sc:=qgd;refine F.ok qgd (λvs H Q E h=>by obtain⟨_,_,rfl,_⟩:=h;rfl) (λcdv A outer s H vs Q E hr h=>?_);obtain⟨x0,x1,rfl,h⟩:=h;refine⟨_,(qad (qah (pec C_65 hr (qaa (pv 0) (qaa (pec C_70 hr (qaa (pv 0) (qaa (pv 1) qac))) qac))))),?_⟩;refine rdg (σ':=[some x0,some x1]) rfl ?_;obtain⟨m,p,fs,rfl,hm,rfl,f1,q⟩:=h;walk_at "rd";have p8:2^m<=32:=yaf (n:=2) (by decide) hm;have pp:=yah m;have hl:=qnB m fs;refine⟨_,_,rfl,m,p,fs,rfl,by omega,rfl,f1,λG1 p1 hp1 t1 a1=>?_⟩;refine⟨_,_,rfl,m,p1,_,rfl,by omega,rfl,SqL.of a1,Fam.hits_rise m fs,Fam.hits_lt,by omega,λG2 p2 hp2 t2 a2=>?_⟩;exact q _ p2 (qaC t1 hp2) (t1.trans t2) a2
abbrev qbP:Stmt:=top 55
theorem qcF:qal ["many", "table", "x", "y", "x_alone", "y_alone", "s"] ["many", "table", "x", "y"] (qaf qbP):=fsc
theorem qsb {A B:Prop}[Decidable (oV none=V.non)](h:A):if oV none=V.non then A else B:=by
 rw[if_pos (show oV none=V.non from rfl)];exact h
theorem qrp {b:Nat}{A B:Prop}[Decidable (oV (some b)=V.non)](h:B):if oV (some b)=V.non then A else B:=by
 rw[if_neg (λz=>by cases z)];exact h
def qhZ (K:W.Frag):Sp:=sp4 λu v x y H Q=>∃(m:Nat) (p:Addr) (f:Nat->Bool) (i j:Nat),u = .int m/\m<=8/\v = .ref p/\SqL K H p (bV (tab (2^m) f))/\x = .int i/\i<m/\y = .int j/\j<m/\Q (oV (Fam.part m f i j)) H
theorem qiE {f:Nat->Bool}{i:Nat}(h0:(List.range i).find? f=none)(hb:f i=false):(List.range (i+1)).find? f=none:=by
 rw[yds,yhl,h0];simp[hb]
theorem qoE {f:Nat->Bool}{n i:Nat}(hi:i<n)(h0:(List.range i).find? f=none)(hb:f i=true):(List.range n).find? f=some i:=by
 obtain⟨d,rfl⟩:∃d,n=i+(1+d):=⟨n-i-1,by omega⟩;rw[ycu,yhl,h0,yfp 1 d,List.range_succ_eq_map];simp[hb]
theorem qsw {s x y:Nat}:decide (Fam.mt s (2^x|||2^y))=(s.testBit x||s.testBit y):=by
 rw[yax,decide_eq_true_eq,Fam.mt_iff,ycz];constructor
 .rintro⟨k,h1,h2⟩
  rw[yan,yaj,yaj,ycz,decide_eq_true_eq,decide_eq_true_eq] at h2;rcases h2 with rfl | rfl
  .exact .inl h1
  .exact .inr h1
 .rintro(h | h)
  .exact⟨x,h,by simp[yan,yaj]⟩
  .exact⟨y,h,by simp[yan,yaj]⟩
theorem qeW {f:Addr}{fd:FuncData}(F:Fun K "first_parting" "first_parting" qbP f fd)(T:Txt mg){f_63:Addr}{fd_63:FuncData}(C_63:Cal P w K mg base "meets" 1 ["one", "other"] qiL f_63 fd_63):qaM P w K mg base CX0 2 f fd ["many", "table", "x", "y"] (qhZ K):=by
 have sc:=qcF;refine F.ok qcF (λvs H Q E h=>by obtain⟨_,_,_,_,rfl,_⟩:=h;rfl) (λcdv A outer s H vs Q E hr h=>?_);obtain⟨x0,x1,x2,x3,rfl,h⟩:=h
 refine⟨_,(qab (qat (i:=4) sc.nd rfl (Or.inl rfl) (qan qa0 qae (pv 2)))
  (qab (qat (i:=5) sc.nd rfl (Or.inl rfl) (qan qa0 qae (pv 3)))
  (qab (qaZ PassesOwn.never rfl (qaG (by rfl) T.n_range (qaa (qan qa0 qae (pv 0)) qac)) (qam (i:=6) sc.nd rfl (Or.inl rfl)) (qad (qaA (PW.pt (qcB (qbD (qa9 (pec C_63 hr (qaa (pv 6) (qaa (qan qed (pv 4) (pv 5)) qac))))) (qcB (qa9 (qaw (qaO (K:=K) rfl) (pv 1) (qan qed (pv 6) (pv 4)) (λ_ _=>rfl))) (qbO (qbD (qa9 (qaw (qaO (K:=K) rfl) (pv 1) (qan qed (pv 6) (pv 5)) (λ_ _=>rfl)))))))) (qad (qah (pv 6))) qak)))
  (qad (qah qdU))))),?_⟩
 refine rdg (σ':=[some x0,some x1,some x2,some x3,none,none,none]) rfl ?_;obtain⟨m,p,f,x,y,rfl,hm,rfl,hq,rfl,hx,rfl,hy,q⟩:=h;walk_at "rd";have pp:=yah m;have p8:2^m<=256:=yaf (n:=2) (by decide) hm;have px:2^x<2^m:=ybs (by decide) hx;have py:2^y<2^m:=ybs (by decide) hy;rw[qaQ,qaQ,qaQ];refine⟨qaK (by omega) (by omega) (by decide) (by decide),qaK (by omega) (by omega) (by decide) (by decide),qaK (by omega) (by omega) (by decide) (by decide),by omega,by omega,?_⟩;rw[yfg];refine qeM (λi σ H3=>∃v,σ=[some (.int m),some (.ref p),some (.int x),some (.int y),some (.int ((2^x:Nat))),some (.int ((2^y:Nat))),v]/\H3=H/\(List.range i).find? (Fam.partP f x y)=none) ⟨none,rfl,rfl,rfl⟩ ?_ ?_
 .rintro i σ H3 hi ⟨v,rfl,rfl,h0⟩ N hN
  (try walk_at "rd")
  rw[qcb,qcb,qcb];refine⟨_,_,rfl,i,_,rfl,rfl,?_⟩;rw[qsw]
  (try walk_at "rd")
  cases hs:(i.testBit x||i.testBit y) with
  | true =>
   rw[if_neg (by decide)];refine hN _ _ ⟨_,rfl,rfl,qiE h0 ?_⟩;unfold Fam.partP;cases e1:i.testBit x<;>cases e2:i.testBit y<;>simp_all
  | false =>
   rw[if_pos rfl];rw[Bool.or_eq_false_iff] at hs;refine qaF hq (qgz (ybr hi px)) ⟨_,rfl,qkN (λh1=>?_) λh1=>hN _ _ ⟨_,rfl,rfl,qiE h0 (by unfold Fam.partP;simp[h1])⟩⟩;refine qaF hq (qgz (ybr hi py)) ⟨_,rfl,?_⟩;cases h2:f (i|||2^y) with
   | true =>
    rw[if_neg (by decide)];refine hN _ _ ⟨_,rfl,rfl,qiE h0 ?_⟩;unfold Fam.partP;simp[h2]
   | false =>
    rw[if_pos rfl];rw[show Fam.part m f x y=some i from qoE hi h0 (by unfold Fam.partP;rw[hs.1,hs.2,h1,h2];rfl)] at q;exact q
 .rintro σ H3 ⟨v,rfl,rfl,h0⟩
  rw[show Fam.part m f x y=none from h0] at q;exact q
abbrev qcw:Stmt:=top 54
theorem qdb:qal ["many", "table", "x", "y", "s", "t"] ["many", "table", "x", "y"] (qaf qcw):=fsc
def qoM (m:Nat)(f:Nat->Bool)(x y:Nat):List V:=match Fam.part m f x y,Fam.part m f y x with
 | none,none=>[.str "alike"]
 | some s,none=>[.str "heavier",.int (s:Nat)]
 | none,some t=>[.str "lighter",.int (t:Nat)]
 | some s,some t=>[.str "apart",.int (s:Nat),.int (t:Nat)]
theorem eqS {K:W.Frag}{z z':Str}{H:Hp}{Q:VK}(c:Bool)(h:decide (z=z')=c)(q:Q (.bl c) H):qnY K (.str z) (.str z') H Q:=qo3.mpr (h▸q)
theorem neS {K:W.Frag}{z z':Str}{H:Hp}{Q:VK}(c:Bool)(h:(!decide (z=z'))=c)(q:Q (.bl c) H):qni K (.str z) (.str z') H Q:=qoU.mpr (h▸q)
def qcO (K:W.Frag):Sp:=sp4 λu v x y H Q=>∃(m:Nat) (p:Addr) (f:Nat->Bool) (i j:Nat),u = .int m/\m<=8/\v = .ref p/\SqL K H p (bV (tab (2^m) f))/\x = .int i/\i<m/\y = .int j/\j<m/\∀t H',H t=none->qar H H'->H' t=some (.tup (qoM m f i j))->Q (.ref t) H'
theorem qfZ {f:Addr}{fd:FuncData}(F:Fun K "compared_in" "compared_in" qcw f fd)(T:Txt mg){f_07:Addr}{fd_07:FuncData}(C_07:Cal P w K mg base "first_parting" 2 ["many", "table", "x", "y"] (qhZ K) f_07 fd_07):qaM P w K mg base CX0 3 f fd ["many", "table", "x", "y"] (qcO K):=by
 have sc:=qdb;refine F.ok qdb (λvs H Q E h=>by obtain⟨_,_,_,_,rfl,_⟩:=h;rfl) (λcdv A outer s H vs Q E hr h=>?_);obtain⟨x0,x1,x2,x3,rfl,h⟩:=h
 refine⟨_,(qab (qat (i:=4) sc.nd rfl (Or.inl rfl) (pec C_07 hr (qaa (pv 0) (qaa (pv 1) (qaa (pv 2) (qaa (pv 3) qac))))))
  (qab (qat (i:=5) sc.nd rfl (Or.inl rfl) (pec C_07 hr (qaa (pv 0) (qaa (pv 1) (qaa (pv 3) (qaa (pv 2) qac))))))
  (qab (qaA (PW.pt (qcB (qai qhK (pv 4) qdU (qao _)) (qbO (qai qhK (pv 5) qdU (qao _))))) (qad (qah (qb9 (qaa qaq qac)))) qak)
  (qab (qaA (qai qhK (pv 5) qdU (qao _)) (qad (qah (qb9 (qaa qaq (qaa (pv 4) qac))))) qak)
  (qab (qaA (qai qhK (pv 4) qdU (qao _)) (qad (qah (qb9 (qaa qaq (qaa (pv 5) qac))))) qak)
  (qad (qah (qb9 (qaa qaq (qaa (pv 4) (qaa (pv 5) qac))))))))))),?_⟩
 refine rdg (σ':=[some x0,some x1,some x2,some x3,none,none]) rfl ?_;obtain⟨m,p,f,x,y,rfl,hm,rfl,hq,rfl,hx,rfl,hy,q⟩:=h;walk_at "rd";refine⟨_,_,_,_,rfl,m,p,f,x,y,rfl,hm,rfl,hq,rfl,hx,rfl,hy,?_⟩
 (try walk_at "rd")
 refine⟨_,_,_,_,rfl,m,p,f,y,x,rfl,hm,rfl,hq,rfl,hy,rfl,hx,?_⟩
 (try walk_at "rd")
 have fin:∀t (L:List V),H t=none->L=qoM m f x y->Q (.ref t) (upd H t (.tup L)):=λt L ht e=>q t _ ht (qar.new ht) (by rw[qag,e]);unfold qoM at fin;cases h1:Fam.part m f x y with
 | none =>
  cases h2:Fam.part m f y x with
  | none =>
   rw[h1,h2] at fin;exact⟨rfl,qsb ⟨rfl,qsb ⟨qau (by simp),λt ht=>fin t _ ht rfl⟩⟩⟩
  | some t2 =>
   rw[h1,h2] at fin;exact⟨rfl,qsb ⟨rfl,qrp ⟨rfl,qrp ⟨rfl,qsb ⟨qau (by simp),λt ht=>fin t _ ht rfl⟩⟩⟩⟩⟩
 | some s1 =>
  cases h2:Fam.part m f y x with
  | none =>
   rw[h1,h2] at fin;exact⟨rfl,qrp ⟨rfl,qsb ⟨qau (by simp),λt ht=>fin t _ ht rfl⟩⟩⟩
  | some t2 =>
   rw[h1,h2] at fin;exact⟨rfl,qrp ⟨rfl,qrp ⟨rfl,qrp ⟨qau (by simp),λt ht=>fin t _ ht rfl⟩⟩⟩⟩
abbrev qer:Stmt:=top 53
theorem qfj:qal ["many", "family", "x", "y"] ["many", "family", "x", "y"] (qaf qer):=fsc
def qgp (K:W.Frag):Sp:=sp4 λu v x y H Q=>∃(m:Nat) (p:Addr) (fs:List Nat) (i j:Nat),u = .int m/\m<=8/\v = .ref p/\H p=some (.lst (nV fs))/\x = .int i/\i<m/\y = .int j/\j<m/\∀t H',H t=none->qar H H'->H' t=some (.tup (qoM m (Fam.sayP fs) i j))->Q (.ref t) H'
theorem qjj {f:Addr}{fd:FuncData}(F:Fun K "compared" "compared" qer f fd)(T:Txt mg){f_18:Addr}{fd_18:FuncData}(C_18:Cal P w K mg base "compared_in" 3 ["many", "table", "x", "y"] (qcO K) f_18 fd_18){f_46:Addr}{fd_46:FuncData}(C_46:Cal P w K mg base "table_of" 3 ["many", "family"] (qdI K) f_46 fd_46):qaM P w K mg base CX0 4 f fd ["many", "family", "x", "y"] (qgp K):=by
 have sc:=qfj;refine F.ok qfj (λvs H Q E h=>by obtain⟨_,_,_,_,rfl,_⟩:=h;rfl) (λcdv A outer s H vs Q E hr h=>?_);obtain⟨x0,x1,x2,x3,rfl,h⟩:=h;refine⟨_,(qad (qah (pec C_18 hr (qaa (pv 0) (qaa (pec C_46 hr (qaa (pv 0) (qaa (pv 1) qac))) (qaa (pv 2) (qaa (pv 3) qac))))))),?_⟩;refine rdg (σ':=[some x0,some x1,some x2,some x3]) rfl ?_;obtain⟨m,p,fs,x,y,rfl,hm,rfl,f1,rfl,hx,rfl,hy,q⟩:=h;walk_at "rd";refine⟨_,_,rfl,m,p,fs,rfl,hm,rfl,f1,λG1 p1 hp1 t1 a1=>?_⟩
 (try walk_at "rd")
 refine⟨_,_,_,_,rfl,m,p1,Fam.sayP fs,x,y,rfl,hm,rfl,SqL.of a1,rfl,hx,rfl,hy,λt H' ht s at1=>?_⟩;exact q t _ (qaC t1 ht) (t1.trans s) at1
abbrev qdw:Stmt:=top 57
theorem qeJ:qal ["many", "table", "k"] ["many", "table", "k"] (qaf qdw):=fsc
def qjy (K:W.Frag):Sp:=sp3 λx y z H Q=>∃(m:Nat) (p:Addr) (f:Nat->Bool) (k:Nat),x = .int m/\m<=8/\y = .ref p/\H p=some (.lst (bV (tab (2^m) f)))/\z = .int k/\k<m/\∀H',qar H H'->Q (.int (Fam.trn m f k:Nat)) H'
theorem qhO {f:Addr}{fd:FuncData}(F:Fun K "turned_by" "turned_by" qdw f fd)(T:Txt mg)  : qaM P w K mg base CX0 1 f fd ["many", "table", "k"] (qjy K):=by
 have sc:=qeJ;refine F.ok qeJ (λvs H Q E h=>by obtain⟨_,_,_,rfl,_⟩:=h;rfl) (λcdv A outer s H vs Q E hr h=>?_);obtain⟨x0,x1,x2,rfl,h⟩:=h;refine⟨_,(qad (qah (qas (qaB (K:=K) rfl) (by rfl) T.n_len PySem.boot_len (qaa (qaH (N:=["s", "table", "k"]) (nt:=1) (caps:=[1,2]) qax rfl (qaG (by rfl) T.n_range (qaa (qan qa0 qae (pv 0)) qac)) (λ_ _ _ _ _=>(qam (i:=0) (show List.Nodup (α:=Str) ["s", "table", "k"] from by decide +kernel) rfl (Or.inl rfl))) qaz (λ_ _ _ _ _=>(qb6 (PW.pt (qcB (qbD (qa9 (qaw (qaO (K:=K) rfl) (pv 1) (pv 0) (λ_ _=>rfl)))) (qbO (qa9 (qaw (qaO (K:=K) rfl) (pv 1) (qan qed (pv 0) (qan qa0 qae (pv 2))) (λ_ _=>rfl)))))))) (λ_ _ _ _ _=>(pv 0))) qac)))),?_⟩;refine rdg (σ':=[some x0,some x1,some x2]) rfl ?_;obtain⟨m,p,f,k,rfl,hm,rfl,f1,rfl,hk,q⟩:=h;walk_at "rd";have pp:=yah m;have p8:2^m<=256:=yaf (n:=2) (by decide) hm;have pk:2^k<2^m:=ybs (by decide) hk;rw[qaQ];refine⟨qaK (by omega) (by omega) (by decide) (by decide),by omega,by omega,?_⟩;rw[yfg];refine qcQ (λs=>!f s&&f (s|||2^k)) (λs => .int (s:Nat)) (by omega) (λs hs H1 sm R R' r1 r2=>?_) λH1 p1 sm hp=>?_
 . (try walk_at "rd")
   refine qaF (SqL.of (sm _ _ f1)) (qgz hs) ⟨_,rfl,?_⟩
   (try walk_at "rd")
   cases h1:f s with
   | true =>
     rw[if_neg (by decide)];exact r2 (by rw[h1];rfl) _ (qar.refl _)
   | false =>
     rw[if_pos rfl];rw[qaQ,qcb];refine⟨qaK (by omega) (by omega) (by decide) (by decide),qaF (SqL.of (sm _ _ f1)) (qgz (ybr hs pk)) ⟨_,rfl,qkN (λhc=>r1 (by rw[h1,hc];rfl) _ (qar.refl _)) λhc=>r2 (by rw[h1,hc];rfl) _ (qar.refl _)⟩⟩
 . refine⟨p1,rfl,_,.inl (SqL.of qag),?_⟩
   rw[ycd];exact q _ (sm.trans (qar.new hp))
abbrev qjm:Stmt:=top 56
theorem qjx:qal ["many", "family", "table"] ["many", "family"] (qaf qjm):=fsc
def qjk (K:W.Frag):Sp:=sp2 λx y H Q=>∃(m:Nat) (p:Addr) (fs:List Nat),x = .int m/\m<=8/\y = .ref p/\H p=some (.lst (nV fs))/\∀H' p',H p'=none->qar H H'->H' p'=some (.lst (nV (Fam.trns m (Fam.sayP fs))))->Q (.ref p') H'
theorem qnn {f:Addr}{fd:FuncData}(F:Fun K "turns" "turns" qjm f fd)(T:Txt mg){f_46:Addr}{fd_46:FuncData}(C_46:Cal P w K mg base "table_of" 3 ["many", "family"] (qdI K) f_46 fd_46){f_36:Addr}{fd_36:FuncData}(C_36:Cal P w K mg base "turned_by" 1 ["many", "table", "k"] (qjy K) f_36 fd_36):qaM P w K mg base CX0 4 f fd ["many", "family"] (qjk K):=by
 have sc:=qjx;refine F.ok qjx (λvs H Q E h=>by obtain⟨_,_,rfl,_⟩:=h;rfl) (λcdv A outer s H vs Q E hr h=>?_);obtain⟨x0,x1,rfl,h⟩:=h
 refine⟨_,(qab (qat (i:=2) sc.nd rfl (Or.inr rfl) (pec C_46 hr (qaa (pv 0) (qaa (pv 1) qac))))
   (qad (qah (qaH (N:=["k", "many", "table"]) (nt:=1) (caps:=[0,2]) qax rfl (qaG (by rfl) T.n_range (qaa (pv 0) qac)) (λ_ _ _ _ _=>(qam (i:=0) (show List.Nodup (α:=Str) ["k", "many", "table"] from by decide +kernel) rfl (Or.inl rfl))) qaz (λ_ _ _ _ _=>qaD) (λ_ _ _ _ _=>(pec C_36 hr (qaa (pv 1) (qaa (pv 2) (qaa (pv 0) qac))))))))),?_⟩
 refine rdg (σ':=[some x0,some x1,none]) rfl ?_;obtain⟨m,p,fs,rfl,hm,rfl,f1,q⟩:=h;walk_at "rd";refine⟨_,_,rfl,m,p,fs,rfl,hm,rfl,f1,λG1 p1 hp1 t1 a1=>?_⟩
 (try walk_at "rd")
 refine⟨by omega,by omega,?_⟩;rw[yfg];refine qcQ (λ_=>true) (λk => .int (Fam.trn m (Fam.sayP fs) k:Nat)) (by omega) (λk hk H1 sm R R' r1 r2=>?_) λH1 p2 sm hp=>?_
 . (try walk_at "rd")
   exact⟨_,_,_,rfl,m,p1,_,k,rfl,hm,rfl,sm _ _ a1,rfl,hk,λH2 s2=>r1 rfl _ s2⟩
 have e:((List.range m).filter λ_=>true).map (λk=>V.int (Fam.trn m (Fam.sayP fs) k:Nat))=nV (Fam.trns m (Fam.sayP fs)):=by
   rw[ygd.mpr λ_ _=>rfl];simp[Fam.trns]
 rw[e];have t2:=t1.trans sm;exact q _ p2 (qaC t2 hp) (t2.trans (qar.new hp)) qag
abbrev qb7:Stmt:=top 35
theorem qc4:qal ["numbers"] ["numbers"] (qaf qb7):=fsc
def qrt (ns:List Nat):Str:=_root_.PySem.Txt.join " " (ns.map λn=>Str.ofString (toString ((n:Nat):Int)))
theorem qgG:∀n,n<=256->(Str.ofString (toString ((n:Nat):Int))).length<=3:=by
 have:∀n,n<257->(Str.ofString (toString ((n:Nat):Int))).length<=3:=by decide +kernel
 exact λn h=>this n (by omega)
def qfe (K:W.Frag):Sp:=sp1 λx H Q=>∃(p:Addr) (ns:List Nat),x = .ref p/\H p=some (.lst (nV ns))/\ns.length<=9/\(∀n∈ns,n<=256)/\∀H',qar H H'->Q (.str (qrt ns)) H'
theorem qft {f:Addr}{fd:FuncData}(F:Fun K "show_numbers" "show_numbers" qb7 f fd)(T:Txt mg)  : qaM P w K mg base CX0 1 f fd ["numbers"] (qfe K):=by
 have sc:=qc4;refine F.ok qc4 (λvs H Q E h=>by obtain⟨_,rfl,_⟩:=h;rfl) (λcdv A outer s H vs Q E hr h=>?_);obtain⟨x0,rfl,h⟩:=h;refine⟨_,(qad (qah (qbj yhe yhf yhg (qbC (K:=K) rfl) qaq (qaa (qaH (N:=["number"]) (nt:=1) (caps:=[]) qax rfl (qaE (pv 0)) (λ_ _ _ _ _=>(qam (i:=0) (show List.Nodup (α:=Str) ["number"] from by decide +kernel) rfl (Or.inl rfl))) qaz (λ_ _ _ _ _=>qaD) (λ_ _ _ _ _=>(qba qhN (by rfl) T.n_str PyProof.Rows.boot_str (qaa (pv 0) qac)))) qac)))),?_⟩;refine rdg (σ':=[some x0]) rfl ?_;obtain⟨p,ns,rfl,f1,hl,hn,q⟩:=h;walk_at "rd";refine⟨rfl,⟨_,SqL.of f1⟩,qbv (fs:=ns) (λ_=>true) (λn => .str (Str.ofString (toString ((n:Nat):Int)))) (SqL.of f1) (by omega) (λn hm H2 s2 R R' r1 r2=>?_) λH2 p3 s2 hp3=>?_⟩
 . (try walk_at "rd")
   have:=hn n hm;exact⟨by rw[Int.natAbs_natCast];exact ybk (Nat.log2_le_self n) (by omega),r1 rfl _ (qar.refl _)⟩
 . rw[ygd.mpr λ_ _=>rfl]
   rw[qdj];refine⟨_,p3,_,rfl,rfl,SqL.of qag,qaU (M:=3) (N:=9) (λy hy=>?_) (by rw[ycd];exact hl) (by rw[Tx.lit_space];decide) (by decide),q _ (s2.trans (qar.new hp3))⟩;obtain⟨n,hm,rfl⟩:=ybu.mp hy;exact qgG n (hn n hm)
abbrev qa8:Stmt:=top 36
theorem qbw:qal ["words", "told"] ["words", "told"] (qaf qa8):=fsc
theorem qkl (as:List Nat)(i:Nat):(nV as)[i]?=(as[i]?).map λb=>V.int (b:Nat):=by
 rw[nV,nI,ycw,ycp];rfl
theorem qsP {K:W.Frag}{g:TG}{σ:L2.St}{H:Hp}{a:Addr}{nt:Nat}{caps:List Nat}{tt:TT}{te:TE}{Q:VK}{as:List Nat}(f:Nat->V)(hq:H a=some (.tup (nV as)))(hz:as.length<=100000)
 (hs:∀x∈as,∀H1,qar H H1->∀(R:VK) (R':Hp->Prop),(∀H2,qar H1 H2->R (f x) H2)->g (.int (x:Nat)) (qa2 nt caps σ) H1 λσ4 H4=>tt σ4 H4 λb H5=>if b=true then te σ4 H5 R else R' H5)
 (hd:∀H1 p,qar H H1->H1 p=none->Q (.ref p) (upd H1 p (.lst (as.map f)))):qcH (Itt K a) nt caps g tt te σ H Q:=by
 refine⟨λi m ys H1=>m=as.length-i/\i<=as.length/\ys=(as.take i).map f/\qar H H1,⟨_,rfl,ybz _,rfl,qar.refl _⟩,?_⟩;rintro i m ys H2 ⟨rfl,hi,rfl,s2⟩;have hq2:SqT K H2 a (nV as):=SqT.of (s2 _ _ hq);by_cases hlt:i<as.length
 .refine .inr ⟨⟨nV as,.int (as[i]:Nat),hq2,by rw[qkl,yck hlt];rfl⟩,ybn (by rw[ycd,yfb];omega) (show 100000<=sizeLine by decide),λx H3 y=>?_⟩
  obtain⟨e,y⟩:=y;subst e;have hx:=y _ hq2;rw[qkl,yck hlt] at hx;cases hx;refine hs as[i] (ydp hlt) _ s2 _ _ λH4 s4=>⟨as.length-(i+1),by omega,rfl,hlt,?_,s2.trans s4⟩;rw[ygq,yck hlt,ycv];rfl
 .obtain rfl:i=as.length:=by omega
  exact .inl ⟨⟨nV as,hq2,by rw[qaP];exact yaz _⟩,ybn (by rw[ycd,yfb];omega) (show 100000<=sizeLine by decide),λp hp=>by rw[ydi];exact hd H2 p s2 hp⟩
def wsT (ws:List Str)(d:Str)(as:List Nat):Str:=_root_.PySem.Txt.join " " (d::as.map (Tx.sT ws))
def qlj (K:W.Frag):Sp:=sp2 λx y H Q=>∃(p t:Addr) (ws:List Str) (d:Str) (as:List Nat),x = .ref p/\H p=some (.lst (sV ws))/\Tx.Wds ws/\y = .ref t/\H t=some (.tup (.str d::nV as))/\d.length<=8/\as.length<=8/\(∀a∈as,a<2^ws.length)/\∀H',qar H H'->Q (.str (wsT ws d as)) H'
theorem qcS {f:Addr}{fd:FuncData}(F:Fun K "show_word_and_sets" "show_word_and_sets" qa8 f fd)(T:Txt mg){f_44:Addr}{fd_44:FuncData}(C_44:Cal P w K mg base "show_set" 2 ["words", "one"] (qfi K) f_44 fd_44):qaM P w K mg base CX0 3 f fd ["words", "told"] (qlj K):=by
 have sc:=qbw;refine F.ok qbw (λvs H Q E h=>by obtain⟨_,_,rfl,_⟩:=h;rfl) (λcdv A outer s H vs Q E hr h=>?_);obtain⟨x0,x1,rfl,h⟩:=h;refine⟨_,(qad (qah (qbj yhe yhf yhg (qbC (K:=K) rfl) qaq (qaa (qan (qb4 (K:=K) rfl) (qaJ (qaa (qaw (qaO (K:=K) rfl) (pv 1) qae (λ_ _=>rfl)) qac)) (qaH (N:=["one", "words"]) (nt:=1) (caps:=[0]) qax rfl (qsZ (qaS (qqN (K:=K) rfl) (pv 1) (qa7 qae) qbm)) (λ_ _ _ _ _=>(qam (i:=0) (show List.Nodup (α:=Str) ["one", "words"] from by decide +kernel) rfl (Or.inl rfl))) qaz (λ_ _ _ _ _=>qaD) (λ_ _ _ _ _=>(pec C_44 hr (qaa (pv 1) (qaa (pv 0) qac)))))) qac)))),?_⟩;refine rdg (σ':=[some x0,some x1]) rfl ?_;obtain⟨p,t,ws,d,as,rfl,f1,hw,rfl,f2,hd,hl,hb,q⟩:=h;walk_at "rd";refine⟨rfl,qbt (SqT.of f2) (qaR (j:=0) rfl) ⟨qau (by simp),λp1 hp1=>?_⟩⟩;generalize g1:upd H p1 _=G1;have a1:=qap g1;have s1:=qaj g1 hp1;refine⟨t,_,rfl,SqT.of (s1 _ _ f2),?_,λp2 hp2=>?_⟩
 . rw[show(1:Int)=((1:Nat):Int) from rfl,HT.sIx_nat,ycb]
   omega
 rw[show(1:Int)=((1:Nat):Int) from rfl,qbY,List.drop_succ_cons,List.drop_zero];generalize g2:upd G1 p2 _=G2;have a2:=qap g2;have s2:=s1.trans (qaj g2 hp2);have a1:=qaj g2 hp2 _ _ a1;refine⟨p2,rfl,⟨_,SqT.of a2⟩,qsP (λb => .str (Tx.sT ws b)) a2 (by omega) (λb hb' H3 s3 R R' r1=>?_) λH3 p3 s3 hp3=>?_⟩
 . (try walk_at "rd")
   exact⟨_,_,rfl,p,ws,b,rfl,s3 _ _ (s2 _ _ f1),hw,rfl,hb b hb',λH4 s4=>r1 _ s4⟩
 rw[qdj];generalize g3:upd H3 p3 _=G3;have a3:=qap g3;have s3':=s3.trans (qaj g3 hp3);refine⟨p1,p3,_,_,rfl,rfl,SqL.of (s3' _ _ a1),SqL.of a3,ybn (by simp;omega) (show 100000<=sizeLine by decide),λp4 hp4=>?_⟩;refine⟨_,p4,d::as.map (Tx.sT ws),rfl,rfl,SqL.of qag,qaU (M:=72) (N:=9) (λy hy=>?_) (by simp;omega) (by rw[Tx.lit_space];decide) (by decide),q _ ((s2.trans s3').trans (qar.new hp4))⟩;rcases ybf.mp hy with rfl | hy
 . omega
 obtain⟨b,hb',rfl⟩:=ybu.mp hy;exact Tx.sT_len hw (hb b hb')
abbrev qcq:Stmt:=top 37
theorem qf2:qal ["words", "told"] ["words", "told"] (qaf qcq):=fsc
theorem qf5 {f:Addr}{fd:FuncData}(F:Fun K "show_looked" "show_looked" qcq f fd)(T:Txt mg):qaM P w K mg base CX0 1 f fd ["words", "told"] qhm:=F.ok qf2 (λvs H Q E h=>absurd h id) (λcdv A outer s H vs Q E hr h=>absurd h id)
abbrev qgF:Stmt:=top 59
theorem qhA:qal ["counts", "lists", "count"] ["counts"] (qaf qgF):=fsc
def qjG (K:W.Frag):Sp:=sp1 λx H Q=>∃(p:Addr) (cs:List Nat),x = .ref p/\H p=some (.lst (nV cs))/\cs.length<=8/\∀(p':Addr) (ps:List Addr) (H':Hp),qar H H'->qgZ H H' p' (rkd cs) ps->Q (.ref p') H'
theorem qmN {f:Addr}{fd:FuncData}(F:Fun K "ranked" "ranked" qgF f fd)(T:Txt mg)  : qaM P w K mg base CX0 1 f fd ["counts"] (qjG K):=by
 have sc:=qhA;refine F.ok qhA (λvs H Q E h=>by obtain⟨_,rfl,_⟩:=h;rfl) (λcdv A outer s H vs Q E hr h=>?_);obtain⟨x0,rfl,h⟩:=h
 refine⟨_,(qab (qat (i:=1) sc.nd rfl (Or.inl rfl) (qaJ qac))
   (qab (qaZ PassesOwn.never rfl (qi7 (K:=K) rfl (by rfl) T.n_reversed (qaa (qas (qbr (P:=P) (w:=w) (K:=K) rfl rfl rfl rfl) (by rfl) T.n_sorted PyProof.Rows.boot_sorted (qaa (qba (qdM (P:=P) (w:=w) (K:=K) rfl rfl rfl rfl) (by rfl) T.n_set PyProof.Rows.boot_set (qaa (pv 0) qac)) qac)) qac)) (qam (i:=2) sc.nd rfl (Or.inr rfl)) (qad (qco (qbj ygw ygx ygy qbI (pv 1) (qaa (qaH (N:=["k", "turned", "count"]) (nt:=2) (caps:=[2]) qax rfl (qp2 (K:=K) rfl (by rfl) T.n_enumerate (qaa (pv 0) qac)) (λ_ _ _ _ _=>(qgq (n:=2) rfl (qa1 (qam (i:=0) (show List.Nodup (α:=Str) ["k", "turned", "count"] from by decide +kernel) rfl (Or.inl rfl)) (qa1 (qam (i:=1) (show List.Nodup (α:=Str) ["k", "turned", "count"] from by decide +kernel) rfl (Or.inl rfl)) qen)))) qoS (λ_ _ _ _ _=>(qb6 (qai (qav (K:=K) rfl hr.units0) (pv 1) (pv 2) (qao _)))) (λ_ _ _ _ _=>(pv 0))) qac)))))
   (qad (qah (pv 1))))),?_⟩
 refine rdg (σ':=[some x0,none,none]) rfl ?_;obtain⟨p,cs,rfl,f1,hl,q⟩:=h;walk_at "rd";refine⟨qau (by simp),λp0 hp0=>?_⟩;generalize g0:upd H p0 _=G0;have a0:=qap g0;have t0:=qaj g0 hp0;refine⟨p,_,rfl,SqL.of (t0 _ _ f1),by simp;omega,λp1 hp1=>?_⟩;generalize g1:upd G0 p1 _=G1;have a1:=qap g1;have t1:=t0.trans (qaj g1 hp1);have a0:=qaj g1 hp1 _ _ a0;refine⟨p1,_,rfl,.inr a1,ybn (qcg _) (by simp;omega),λp2 ms hp2 m1 m2=>?_⟩;have lsd:=qnp cs hl;rw[qcc m1 m2];generalize g2:upd G1 p2 _=G2;have a2:=qap g2;have t2:=t1.trans (qaj g2 hp2);have n02:=qdX hp2 a0;have a0:=qaj g2 hp2 _ _ a0;refine⟨p2,rfl,_,SqL.of a2,?_⟩;refine qsO (fs:=sd cs) (λi σ H3=>∃(v:Option V) (ps:List Addr),σ=[some (.ref p),some (.ref p0),v]/\qar H H3/\H3 p2=some (.lst (nV (sd cs)))/\qgZ H H3 p0 (((sd cs).reverse.take i).map (rkV cs)) ps/\∀r∈ps,r≠p0) ⟨none,[],rfl,t2,a2,⟨hp0,a0,rfl,λj r L z=>(by cases z)⟩,λr hr=>(by cases hr)⟩ (λi σ H3 _ ⟨_,_,_,_,e,_⟩=>SqL.of e) ?_ ?_
 . rintro i b σ H3 hbi ⟨v,ps,rfl,s3,b2,L3,hne⟩ N hN
   have lps:ps.length<=8:=by
     rw[L3.2.2.1,ycd,yfb,ygj];omega
   (try walk_at "rd")
   refine⟨qaX L3.2.1,_,SqL.of (s3 _ _ f1),qr5 (fs:=cs) (λ_ x=>decide (x=b)) (λk => .int (k:Nat)) (SqL.of (s3 _ _ f1)) (by omega) (λk x hx R R' H4 t s4 at4 r1 r2=>?_) λH4 p4 s4 hp4=>?_⟩
   . (try walk_at "rd")
     refine⟨_,SqT.of at4,rfl,_,_,rfl,_,_,rfl,rfl,?_⟩
     (try walk_at "rd")
     exact qfM (b:=decide (x=b)) (by rw[decide_eq_true_eq];omega) r1 r2
   rw[qna,show((List.range cs.length).filter λi=>decide (cs.getD i 0=b))=rkV cs b from rfl];generalize g4:upd H4 p4 _=G4;have a4:=qap g4;have s4':=s4.trans (qaj g4 hp4);have n4:=qdX hp4 (s4 _ _ L3.2.1);have L4:=L3.mono s4';refine⟨p0,_,_,rfl,rfl,L4.2.1,qcv (by rw[ycd];omega),?_⟩;refine hN _ _ ⟨_,ps++[p4],rfl,(s3.trans s4').upd hp0,by rw[qay (Ne.symm n02)];exact s4' _ _ b2,?_,λr hr=>?_⟩
   . rw[ygq,hbi,ycv]
     exact L4.snoc (qaC (s3.trans s4) hp4) a4 hne (Ne.symm n4)
   . rcases yav.mp hr with z | z
     . exact hne r z
     . rw[show r=p4 by simpa using z];exact Ne.symm n4
 . rintro σ H3 ⟨v,ps,rfl,s3,b2,L3,hne⟩
   rw[<-ygj,ydi] at L3
   (try walk_at "rd")
   exact q p0 ps _ s3 L3
abbrev qiX:Stmt:=top 58
theorem qjY:qal ["many", "family", "table", "x", "y", "told"] ["many", "family"] (qaf qiX):=fsc
/-- what ranks tells,its objects new to H0 -/
def Rkd (H0 H:Hp)(m:Nat)(f:Nat->Bool)(t:Addr):Prop:=H0 t=none/\((∃x y s u:Nat,x<y/\y<m/\qit m f x y/\Fam.part m f x y=some s/\Fam.part m f y x=some u/\H t=some (.tup [.str "apart",.int (x:Nat),.int (y:Nat),.int (s:Nat),.int (u:Nat)])) \/
 qit m f m 0/\∃(p':Addr) (ps:List Addr),H t=some (.tup [.str "ranks",.ref p'])/\qgZ H0 H p' (rkd (Fam.trns m f)) ps)
theorem Rkd.mono {H0 H H':Hp}{m:Nat}{f:Nat->Bool}{t:Addr}(h:Rkd H0 H m f t)(s:qar H H'):Rkd H0 H' m f t:=by
 obtain⟨h0,⟨x,y,u,v,h1,h2,h3,h4,h5,h6⟩ | ⟨h1,p',ps,h2,h3⟩⟩:=h
 .exact⟨h0,.inl ⟨x,y,u,v,h1,h2,h3,h4,h5,s _ _ h6⟩⟩
 .exact⟨h0,.inr ⟨h1,p',ps,s _ _ h2,h3.mono s⟩⟩
def qi9 (K:W.Frag):Sp:=sp2 λx y H Q=>∃(m:Nat) (p:Addr) (fs:List Nat),x = .int m/\m<=8/\y = .ref p/\H p=some (.lst (nV fs))/\∀t H',qar H H'->Rkd H H' m (Fam.sayP fs) t->Q (.ref t) H'
theorem qnD {f:Addr}{fd:FuncData}(F:Fun K "ranks" "ranks" qiX f fd)(T:Txt mg){f_46:Addr}{fd_46:FuncData}(C_46:Cal P w K mg base "table_of" 3 ["many", "family"] (qdI K) f_46 fd_46){f_60:Addr}{fd_60:FuncData}(C_60:Cal P w K mg base "ranked" 1 ["counts"] (qjG K) f_60 fd_60){f_18:Addr}{fd_18:FuncData}(C_18:Cal P w K mg base "compared_in" 3 ["many", "table", "x", "y"] (qcO K) f_18 fd_18){f_66:Addr}{fd_66:FuncData}(C_66:Cal P w K mg base "turns" 4 ["many", "family"] (qjk K) f_66 fd_66):qaM P w K mg base CX0 5 f fd ["many", "family"] (qi9 K):=by
 have sc:=qjY;refine F.ok qjY (λvs H Q E h=>by obtain⟨_,_,rfl,_⟩:=h;rfl) (λcdv A outer s H vs Q E hr h=>?_);obtain⟨x0,x1,rfl,h⟩:=h
 refine⟨_,(qab (qat (i:=2) sc.nd rfl (Or.inl rfl) (pec C_46 hr (qaa (pv 0) (qaa (pv 1) qac))))
  (qab (qaZ PassesOwn.never rfl (qaG (by rfl) T.n_range (qaa (pv 0) qac)) (qam (i:=3) sc.nd rfl (Or.inl rfl)) (qad (qaZ PassesOwn.never rfl (qh0 (by rfl) T.n_range (qaa (qan qbf (pv 3) qae) (qaa (pv 0) qac))) (qam (i:=4) sc.nd rfl (Or.inl rfl)) (qab (qat (i:=5) sc.nd rfl (Or.inl rfl) (pec C_18 hr (qaa (pv 0) (qaa (pv 2) (qaa (pv 3) (qaa (pv 4) qac))))))
  (qad (qaA (qai (qav (K:=K) rfl hr.units0) (qaw (qaO (K:=K) rfl) (pv 5) qae (λ_ _=>rfl)) qaq (qao _)) (qad (qah (qb9 (qaa qaq (qaa (pv 3) (qaa (pv 4) (qaa (qaw (qaO (K:=K) rfl) (pv 5) qae (λ_ _=>rfl)) (qaa (qaw (qaO (K:=K) rfl) (pv 5) qae (λ_ _=>rfl)) qac)))))))) qak))))))
  (qad (qah (qb9 (qaa qaq (qaa (pec C_60 hr (qaa (pec C_66 hr (qaa (pv 0) (qaa (pv 1) qac))) qac)) qac))))))),?_⟩
 refine rdg (σ':=[some x0,some x1,none,none,none,none]) rfl ?_;obtain⟨m,p,fs,rfl,hm,rfl,f1,q⟩:=h;walk_at "rd";refine⟨_,_,rfl,m,p,fs,rfl,hm,rfl,f1,λG1 p1 hp1 t1 a1=>?_⟩
 (try walk_at "rd")
 refine⟨by omega,by omega,?_⟩;rw[yfg];refine qeM (λx σ H3=>∃v1 v2 v3,σ=[some (.int m),some (.ref p),some (.ref p1),v1,v2,v3]/\qar G1 H3/\qit m (Fam.sayP fs) x 0) ⟨none,none,none,rfl,qar.refl _,λx' y' h1 h2 h3=>(by omega)⟩ ?_ ?_
 .rintro x σ H3 hx ⟨v1,v2,v3,rfl,s3,h3⟩ N hN
  (try walk_at "rd")
  refine⟨_,_,⟨rfl,rfl⟩,⟨by omega,by omega,by omega,by omega⟩,qtd (lo:=x+1) (by simp) (λj σ H4=>∃v2 v3,σ=[some (.int m),some (.ref p),some (.ref p1),some (.int (x:Nat)),v2,v3]/\qar G1 H4/\qit m (Fam.sayP fs) x (x+1+j)) ⟨_,_,rfl,s3,λx' y' h1 h2 h4=>?_⟩ ?_ ?_⟩
  .rcases h4 with z | z
   .exact h3 x' y' h1 h2 (.inl z)
   .omega
  .rintro j σ H4 hj ⟨v2,v3,rfl,s4,h4⟩ N2 hN2
   have hy:x+1+j<m:=by omega
   generalize ey:x+1+j=y at *
   (try walk_at "rd")
   refine⟨_,_,_,_,rfl,m,p1,Fam.sayP fs,x,y,rfl,hm,rfl,SqL.of (s4 _ _ a1),rfl,hx,rfl,hy,λt G5 ht s5 at5=>?_⟩
   (try walk_at "rd")
   have s5':=s4.trans s5;unfold qoM at at5
   have nx:Fam.part m (Fam.sayP fs) x y=none\/Fam.part m (Fam.sayP fs) y x=none->qit m (Fam.sayP fs) x (x+1+(j+1)):=λz x' y' h1 h2 h5=>by
    by_cases c:x'=x/\y'=y
    .rw[c.1,c.2];exact z
    .exact h4 x' y' h1 h2 (by omega)
   cases e1:Fam.part m (Fam.sayP fs) x y with
   | none =>
    cases e2:Fam.part m (Fam.sayP fs) y x with
    | none =>
     rw[e1,e2] at at5;refine qbt (SqT.of at5) rfl (eqS false (by decide) ⟨_,rfl,qcA (hN2 _ _ ⟨_,_,rfl,s5',nx (.inl e1)⟩)⟩)
    | some u =>
     rw[e1,e2] at at5;refine qbt (SqT.of at5) rfl (eqS false (by decide) ⟨_,rfl,qcA (hN2 _ _ ⟨_,_,rfl,s5',nx (.inl e1)⟩)⟩)
   | some s =>
    cases e2:Fam.part m (Fam.sayP fs) y x with
    | none =>
     rw[e1,e2] at at5;refine qbt (SqT.of at5) rfl (eqS false (by decide) ⟨_,rfl,qcA (hN2 _ _ ⟨_,_,rfl,s5',nx (.inr e2)⟩)⟩)
    | some u =>
     rw[e1,e2] at at5;refine qbt (SqT.of at5) rfl (eqS true (by decide) ⟨_,rfl,qeK ?_⟩);refine qbt (SqT.of at5) rfl (qbt (SqT.of at5) rfl ⟨qau (by simp),λt6 ht6=>?_⟩);have s6:=(t1.trans s5').trans (qar.new (o := .tup [.str "apart",.int (x:Nat),.int (y:Nat),.int (s:Nat),.int (u:Nat)]) ht6);refine q t6 _ s6 ⟨qaC (t1.trans s5') ht6,.inl ⟨x,y,s,u,by omega,hy,h4,e1,e2,qag⟩⟩
  .rintro σ H4 ⟨v2,v3,rfl,s4,h4⟩
   refine hN _ _ ⟨_,_,_,rfl,s4,λx' y' h1 h2 h5=>h4 x' y' h1 h2 (by omega)⟩
 .rintro σ H3 ⟨v1,v2,v3,rfl,s3,h3⟩
  (try walk_at "rd")
  have t3:=t1.trans s3;refine⟨_,_,rfl,m,p,fs,rfl,hm,rfl,t3 _ _ f1,λG5 p5 hp5 t5 a5=>?_⟩
  (try walk_at "rd")
  refine⟨_,rfl,p5,_,rfl,a5,by rw[qbe];exact hm,λp6 ps G6 t6 L6=>⟨qau (by simp),λt ht=>?_⟩⟩;have s6:=(t3.trans t5).trans t6;refine q t _ (s6.trans (qar.new ht)) ⟨qaC s6 ht,.inr ⟨h3,p6,ps,qag,?_⟩⟩;exact(L6.back (t3.trans t5)).mono (qar.new ht)
abbrev qc3:Stmt:=top 39
theorem qdL:qal ["words", "names"] ["words", "names"] (qaf qc3):=fsc
def alT (ws:List Str)(ks:List Nat):Str:=_root_.PySem.Txt.join "=" (ks.map λk=>ws.getD k Str.empty)
theorem qfa:("=" : Str)=⟨#[61]⟩:=by decide +kernel
theorem qmc {ws:List Str}(hw:Tx.Wds ws){ks:List Nat}(hl:ks.length<=8)(hk:∀k∈ks,k<ws.length):(alT ws ks).length<=100:=by
 unfold alT;rw[<-Tx.len_sg,qfa,Tx.txt_join];refine ybn (Tx.jn_len (M:=8) λx hx=>?_) (show _*9<=_ by rw[ycd,ycd];omega);obtain⟨w,hw',rfl⟩:=ybu.mp hx;obtain⟨k,hk',rfl⟩:=ybu.mp hw';rw[Tx.len_sg,ycj,yck (hk k hk')];exact(hw.wd _ (ydp _)).2.1
def quv (K:W.Frag):Sp:=sp2 λx y H Q=>∃(p p2:Addr) (ws:List Str) (ks:List Nat),x = .ref p/\H p=some (.lst (sV ws))/\Tx.Wds ws/\y = .ref p2/\H p2=some (.lst (nV ks))/\ks.length<=8/\(∀k∈ks,k<ws.length)/\∀H',qar H H'->Q (.str (alT ws ks)) H'
theorem qg8 {f:Addr}{fd:FuncData}(F:Fun K "show_alike" "show_alike" qc3 f fd)(T:Txt mg)  : qaM P w K mg base CX0 1 f fd ["words", "names"] (quv K):=by
 have sc:=qdL;refine F.ok qdL (λvs H Q E h=>by obtain⟨_,_,rfl,_⟩:=h;rfl) (λcdv A outer s H vs Q E hr h=>?_);obtain⟨x0,x1,rfl,h⟩:=h;refine⟨_,(qad (qah (qbj yhe yhf yhg (qbC (K:=K) rfl) qaq (qaa (qaH (N:=["k", "words"]) (nt:=1) (caps:=[0]) qax rfl (qaE (pv 1)) (λ_ _ _ _ _=>(qam (i:=0) (show List.Nodup (α:=Str) ["k", "words"] from by decide +kernel) rfl (Or.inl rfl))) qaz (λ_ _ _ _ _=>qaD) (λ_ _ _ _ _=>(qaw (qaO (K:=K) rfl) (pv 1) (pv 0) (λ_ _=>rfl)))) qac)))),?_⟩;refine rdg (σ':=[some x0,some x1]) rfl ?_;obtain⟨p,p2,ws,ks,rfl,f1,hw,rfl,f2,hl,hk,q⟩:=h;have gw:∀k,k<ws.length->ws[k]?=some (ws.getD k Str.empty):=λk hk=>by rw[ycj,yck hk];rfl
 have gl:∀k,k<ws.length->(ws.getD k Str.empty).length<=8:=λk hk=>(hw.wd _ (ycl (gw k hk))).2.1;walk_at "rd";refine⟨rfl,⟨_,SqL.of f2⟩,qbv (fs:=ks) (λ_=>true) (λk => .str (ws.getD k Str.empty)) (SqL.of f2) (by omega) (λk hm H2 s2 R R' r1 r2=>?_) λH2 p3 s2 hp3=>?_⟩
 . (try walk_at "rd")
   exact qaF (SqL.of (s2 _ _ f1)) (qbh (gw k (hk k hm))) (r1 rfl _ (qar.refl _))
 . rw[ygd.mpr λ_ _=>rfl,qdj]
   refine⟨_,p3,_,rfl,rfl,SqL.of qag,qaU (M:=8) (N:=8) (λy hy=>?_) (by rw[ycd];exact hl) (by rw[qfa];decide) (by decide),q _ (s2.trans (qar.new hp3))⟩;obtain⟨k,hk',rfl⟩:=ybu.mp hy;exact gl k (hk k hk')
abbrev qc6:Stmt:=top 38
theorem qdS:qal ["words", "told"] ["words", "told"] (qaf qc6):=fsc
def rkT (ws:List Str)(L:List (List Nat)):Str:=_root_.PySem.Txt.join " " (("ranks" : Str)::L.map (alT ws))
def apT (ws:List Str)(x y:Nat):Str:=_root_.PySem.Txt.join " " [("apart" : Str),ws.getD x Str.empty,ws.getD y Str.empty]
/-- what may be told of ranks -/
def RkT (ws:List Str)(f:Nat->Bool)(t:Str):Prop:=(∃x y s u:Nat,x<y/\y<ws.length/\qit ws.length f x y/\Fam.part ws.length f x y=some s/\Fam.part ws.length f y x=some u/\t=apT ws x y)\/(qit ws.length f ws.length 0/\t=rkT ws (rkd (Fam.trns ws.length f)))
def qsl (K:W.Frag):Sp:=sp2 λx y H Q=>∃(p t:Addr) (ws:List Str) (f:Nat->Bool) (H0:Hp),x = .ref p/\H p=some (.lst (sV ws))/\Tx.Wds ws/\y = .ref t/\Rkd H0 H ws.length f t/\∀z H',RkT ws f z->qar H H'->Q (.str z) H'
theorem qgV {f:Addr}{fd:FuncData}(F:Fun K "show_ranks" "show_ranks" qc6 f fd)(T:Txt mg){f_27:Addr}{fd_27:FuncData}(C_27:Cal P w K mg base "show_alike" 1 ["words", "names"] (quv K) f_27 fd_27):qaM P w K mg base CX0 2 f fd ["words", "told"] (qsl K):=by
 have sc:=qdS;refine F.ok qdS (λvs H Q E h=>by obtain⟨_,_,rfl,_⟩:=h;rfl) (λcdv A outer s H vs Q E hr h=>?_);obtain⟨x0,x1,rfl,h⟩:=h
 refine⟨_,(qab (qaA (qai (qav (K:=K) rfl hr.units0) (qaw (qaO (K:=K) rfl) (pv 1) qae (λ_ _=>rfl)) qaq (qao _)) (qad (qah (qbj yhe yhf yhg (qbC (K:=K) rfl) qaq (qaa (qaJ (qaa qaq (qaa (qaw (qaO (K:=K) rfl) (pv 0) (qaw (qaO (K:=K) rfl) (pv 1) qae (λ_ _=>rfl)) (λ_ _=>rfl)) (qaa (qaw (qaO (K:=K) rfl) (pv 0) (qaw (qaO (K:=K) rfl) (pv 1) qae (λ_ _=>rfl)) (λ_ _=>rfl)) qac)))) qac)))) qak)
  (qad (qah (qbj yhe yhf yhg (qbC (K:=K) rfl) qaq (qaa (qan (qb4 (K:=K) rfl) (qaJ (qaa qaq qac)) (qaH (N:=["names", "words"]) (nt:=1) (caps:=[0]) qax rfl (qaE (qaw (qaO (K:=K) rfl) (pv 1) qae (λ_ _=>rfl))) (λ_ _ _ _ _=>(qam (i:=0) (show List.Nodup (α:=Str) ["names", "words"] from by decide +kernel) rfl (Or.inl rfl))) qaz (λ_ _ _ _ _=>qaD) (λ_ _ _ _ _=>(pec C_27 hr (qaa (pv 1) (qaa (pv 0) qac)))))) qac))))),?_⟩
 refine rdg (σ':=[some x0,some x1]) rfl ?_;obtain⟨p,t,ws,f,H0,rfl,f1,hw,rfl,hR,q⟩:=h;have gw:∀k,k<ws.length->ws[k]?=some (ws.getD k Str.empty):=λk hk=>by rw[ycj,yck hk];rfl
 have gl:∀k,k<ws.length->(ws.getD k Str.empty).length<=8:=λk hk=>(hw.wd _ (ycl (gw k hk))).2.1;have h8:=hw.few;walk_at "rd";have zz:100000<=sizeLine:=by decide
 obtain⟨h0,⟨x,y,s,u,hxy,hy,hno,e1,e2,f2⟩ | ⟨hno,p',ps,f2,L⟩⟩:=hR
 .have kx:=gl x (by omega)
  have ky:=gl y hy;refine qbt (SqT.of f2) (qaR (j:=0) rfl) ⟨_,.inl ⟨rfl,rfl⟩,⟨true,congrArg V.bl (decide_eq_true rfl),qeK ⟨rfl,?_⟩⟩⟩;refine qbt (SqT.of f2) (qaR (j:=1) rfl) (qaF (SqL.of f1) (qbh (gw x (by omega))) (qbt (SqT.of f2) (qaR (j:=2) rfl) (qaF (SqL.of f1) (qbh (gw y hy)) ⟨qau (by simp),λp1 hp1=>?_⟩)));refine⟨_,p1,[("apart" : Str),ws.getD x Str.empty,ws.getD y Str.empty],rfl,rfl,SqL.of qag,qaU (M:=8) (N:=3) (λz hz=>?_) (by simp) (by rw[Tx.lit_space];decide) (by decide),q _ _ (.inl ⟨x,y,s,u,hxy,hy,hno,e1,e2,rfl⟩) (qar.new hp1)⟩;rcases ybf.mp hz with rfl | hz
  .decide +kernel
  rcases ybf.mp hz with rfl | hz
  .exact kx
  .rw[yei.mp hz]
   exact ky
 have n1:¬("ranks" : Str)=Str.ofString "apart" := by decide +kernel
 have e1:decide (V.str ("ranks" : Str)=V.str (Str.ofString "apart"))=false:=decide_eq_false λe=>n1 (V.str.inj e);refine qbt (SqT.of f2) (qaR (j:=0) rfl) ⟨_,.inl ⟨rfl,rfl⟩,⟨false,congrArg V.bl e1,qcA ⟨rfl,qau (by simp),λp1 hp1=>?_⟩⟩⟩;generalize g1:upd H p1 _=G1;have a1:=qap g1;have s1:=qaj g1 hp1
 have gL:∀l∈rkd (Fam.trns ws.length f),l.length<=8/\∀k∈l,k<ws.length:=λl hl=>by
  obtain⟨b,_,rfl⟩:=ybu.mp hl;unfold rkV;rw[qbe];exact⟨ybn (ybo _ _) (by rw[ygk];exact h8),λk hk=>ybj.mp (yba.mp hk).1⟩
 have lR:(rkd (Fam.trns ws.length f)).length<=8:=by
  unfold rkd;rw[ycd,ygj];exact qnp _ (by rw[qbe];exact h8)
 generalize eLL:rkd (Fam.trns ws.length f)=LL at L gL lR;have lps:=L.2.2.1;refine qbt (SqT.of (s1 _ _ f2)) (qaR (j:=1) rfl) ⟨p',rfl,⟨_,SqL.of (s1 _ _ L.2.1)⟩,qfL (xs:=ps.map V.ref) (λi ys H1=>qar G1 H1/\ys=sV ((LL.take i).map (alT ws))) ⟨qar.refl _,rfl⟩ (qau (by rw[ycd];omega)) (λi ys H1 hi h=>⟨SqL.of (h.1 _ _ (s1 _ _ L.2.1)),by rw[h.2,qaI,ycd,yfb];omega⟩) (λi x ys H1 hx h R R' r1 r2=>?_) λys H1 h p3 hp3=>?_⟩
 .obtain⟨s3,rfl⟩:=h
  rw[ycp] at hx;cases er:ps[i]? with
  | none=>rw[er] at hx;cases hx
  | some r =>
   rw[er] at hx;cases hx
   have hi:i<LL.length:=by
    have:=(ycm.mp er).1;omega
   have el:LL[i]?=some LL[i]:=yck hi;have hq:=(L.2.2.2 i r _ er el).2;obtain⟨gl1,gl2⟩:=gL _ (ycl el)
   (try walk_at "rd")
   refine⟨_,_,rfl,p,r,ws,LL[i],rfl,s3 _ _ (s1 _ _ f1),hw,rfl,s3 _ _ (s1 _ _ hq),gl1,gl2,λH4 s4=>r1 _ _ ⟨s3.trans s4,?_⟩⟩;rw[ygq,el,ycv];show _=List.map V.str (_++_);rw[ycv];rfl
 obtain⟨s3,rfl⟩:=h;generalize g3:upd H1 p3 _=G3;have a3:=qap g3;have s3':=s3.trans (qaj g3 hp3);rw[ycd,lps,ydi] at a3;refine⟨p1,p3,_,_,rfl,rfl,SqL.of (s3' _ _ a1),SqL.of a3,qau (by simp;omega),λp4 hp4=>?_⟩;refine⟨_,p4,("ranks" : Str)::LL.map (alT ws),rfl,rfl,SqL.of qag,qaU (M:=100) (N:=9) (λy hy=>?_) (by simp;omega) (by rw[Tx.lit_space];decide) (by decide),q _ _ (.inr ⟨hno,by rw[eLL];rfl⟩) ((s1.trans s3').trans (qar.new hp4))⟩;rcases ybf.mp hy with rfl | hy
 .decide +kernel
 obtain⟨l,hl,rfl⟩:=ybu.mp hy;exact qmc hw (gL l hl).1 (gL l hl).2
abbrev qdr:Stmt:=top 68
theorem qeA:qal ["weights", "one"] ["weights", "one"] (qaf qdr):=fsc
theorem qha (L:List Nat):(nI L).sum=((L.sum:Nat):Int):=by
 induction L with
 | nil=>rfl
 | cons a r ih =>
  have:(nI (a::r)).sum=(a:Int)+(nI r).sum:=by simp[nI]
  rw[this,ih,ych];omega
def qgc (K:W.Frag):Sp:=sp2 λx y H Q=>∃(p:Addr) (ws:List Nat) (a:Nat),x = .ref p/\H p=some (.lst (nV ws))/\ws.length<=8/\y = .int a/\a<2^ws.length/\∀H',qar H H'->Q (.int (Fam.wt ws a:Nat)) H'
theorem qh6 {f:Addr}{fd:FuncData}(F:Fun K "weight_of" "weight_of" qdr f fd)(T:Txt mg){f_43:Addr}{fd_43:FuncData}(C_43:Cal P w K mg base "names_in" 1 ["one"] qfA f_43 fd_43):qaM P w K mg base CX0 2 f fd ["weights", "one"] (qgc K):=by
 have sc:=qeA;refine F.ok qeA (λvs H Q E h=>by obtain⟨_,_,rfl,_⟩:=h;rfl) (λcdv A outer s H vs Q E hr h=>?_);obtain⟨x0,x1,rfl,h⟩:=h;refine⟨_,(qad (qah (qas (qch (K:=K) rfl rfl) (by rfl) T.n_sum PyProof.Rows.boot_sum (qaa (qaH (N:=["k", "weights"]) (nt:=1) (caps:=[0]) qax rfl (qaE (pec C_43 hr (qaa (pv 1) qac))) (λ_ _ _ _ _=>(qam (i:=0) (show List.Nodup (α:=Str) ["k", "weights"] from by decide +kernel) rfl (Or.inl rfl))) qaz (λ_ _ _ _ _=>qaD) (λ_ _ _ _ _=>(qaw (qaO (K:=K) rfl) (pv 1) (pv 0) (λ_ _=>rfl)))) qac)))),?_⟩;refine rdg (σ':=[some x0,some x1]) rfl ?_;obtain⟨p,ws,a,rfl,f1,hl,rfl,ha,q⟩:=h;walk_at "rd";have a8:a<256:=yae ha (yaf (n:=2) (by decide) hl);have l8:(Fam.nms 8 a).length<=8:=ybn (ybo _ _) (by simp);refine⟨_,rfl,a,rfl,a8,λG1 p1 t1 hp1=>?_⟩;generalize g1:upd G1 p1 _=G2;have a1:=qap g1;have t2:=t1.trans (qaj g1 hp1);refine⟨p1,rfl,⟨_,SqL.of a1⟩,qbv (fs:=Fam.nms 8 a) (λ_=>true) (λk => .int (ws.getD k 0:Nat)) (SqL.of a1) (by omega) (λk hk H3 s3 R R' r1 r2=>?_) λG3 p3 t3 hp3=>?_⟩
 . (try walk_at "rd")
   have km:=Fam.bit_low ha (Fam.mem_nms.mp hk).2;have e:ws[k]?=some (ws.getD k 0):=by rw[ycj,yck km];rfl
   exact qaF (SqL.of (s3 _ _ (t2 _ _ f1))) (qd1 e) (r1 rfl _ (qar.refl _))
 have e:((Fam.nms 8 a).filter λ_=>true).map (λk=>V.int (ws.getD k 0:Nat))=nV ((Fam.nms 8 a).map λk=>ws.getD k 0):=by
   rw[ygd.mpr λ_ _=>rfl];simp
 rw[e];refine⟨p3,rfl,nI ((Fam.nms 8 a).map λk=>ws.getD k 0),SqL.of qag,?_⟩;rw[qha];exact q _ ((t2.trans t3).trans (qar.new hp3))
abbrev qgM:Stmt:=top 70
theorem qif:qal ["x", "y", "s", "t", "yes", "no"] ["x", "y", "s", "t"] (qaf qgM):=fsc
theorem qmO {L:List Nat}{ms:List Int}(h:ms.Perm (nI L)):∃ys:List Nat,ms=nI ys/\ys.Perm L:=by
 refine⟨ms.map Int.toNat,?_,?_⟩
 .have:∀(l:List Int),(∀x∈l,0<=x)->l=nI (l.map Int.toNat):=λl=>by
   induction l with
   | nil=>intro _;rfl
   | cons a r ih =>
    intro hl;have h1:=hl a ybd;have h2:=ih λx hx=>hl x (ybg _ hx);show a::r=(a.toNat:Int)::nI (r.map Int.toNat);rw[<-h2,yhb h1]
  refine this ms λx hx=>?_;obtain⟨b,_,rfl⟩:=ybu.mp (h.mem_iff.mp hx);exact yew b
 .have:=h.map Int.toNat
  have e:(nI L).map Int.toNat=L:=by unfold nI;rw[ycw];exact List.map_id'' (λx=>rfl) L
  rwa [e] at this
theorem qsy {ys:List Nat}(h:(nI ys).Pairwise (·<=·)):ys.Pairwise (·<=·):=by
 unfold nI at h;rw[ybw] at h;exact h.imp λh=>Int.ofNat_le.mp h
def qjp:Sp:=sp4 λu v a b H Q=>∃x y s t:Nat,u = .int (x:Nat)/\v = .int (y:Nat)/\a = .int (s:Nat)/\b = .int (t:Nat)/\x<8/\y<8 /\
 ∀(tt p1 p2:Addr) (ys ns:List Nat) (H':Hp),qar H H'->H tt=none->H p1=none->H p2=none->p1≠p2->H' tt=some (.tup [.str "trade",.ref p1,.ref p2])->H' p1=some (.lst (nV ys))->H' p2=some (.lst (nV ns))->ys.Perm [s|||2^x,t|||2^y]->ns.Perm [s|||2^y,t|||2^x]->ys.Pairwise (·<=·)->ns.Pairwise (·<=·)->Q (.ref tt) H'
theorem qkW {f:Addr}{fd:FuncData}(F:Fun K "traded" "traded" qgM f fd)(T:Txt mg)  : qaM P w K mg base CX0 1 f fd ["x", "y", "s", "t"] qjp:=by
 have sc:=qif;refine F.ok qif (λvs H Q E h=>by obtain⟨_,_,_,_,rfl,_⟩:=h;rfl) (λcdv A outer s H vs Q E hr h=>?_);obtain⟨x0,x1,x2,x3,rfl,h⟩:=h
 refine⟨_,(qab (qat (i:=4) sc.nd rfl (Or.inl rfl) (qas (qbr (P:=P) (w:=w) (K:=K) rfl rfl rfl rfl) (by rfl) T.n_sorted PyProof.Rows.boot_sorted (qaa (qaJ (qaa (qan qed (pv 2) (qan qa0 qae (pv 0))) (qaa (qan qed (pv 3) (qan qa0 qae (pv 1))) qac))) qac)))
  (qab (qat (i:=5) sc.nd rfl (Or.inl rfl) (qas (qbr (P:=P) (w:=w) (K:=K) rfl rfl rfl rfl) (by rfl) T.n_sorted PyProof.Rows.boot_sorted (qaa (qaJ (qaa (qan qed (pv 2) (qan qa0 qae (pv 1))) (qaa (qan qed (pv 3) (qan qa0 qae (pv 0))) qac))) qac)))
  (qad (qah (qb9 (qaa qaq (qaa (pv 4) (qaa (pv 5) qac)))))))),?_⟩
 refine rdg (σ':=[some x0,some x1,some x2,some x3,none,none]) rfl ?_;obtain⟨x,y,s,t,rfl,rfl,rfl,rfl,hx,hy,q⟩:=h;have px:2^x<=256:=yaf (n:=2) (by decide) (show x<=8 by omega);have py:2^y<=256:=yaf (n:=2) (by decide) (show y<=8 by omega);walk_at "rd";rw[qaQ,qaQ,qcb,qcb,qcb,qcb];refine⟨qaK (by omega) (by omega) (by decide) (by decide),qaK (by omega) (by omega) (by decide) (by decide),qau (by simp),λp0 hp0=>?_⟩;generalize g0:upd H p0 _=G0;have a0:=qap g0;have t0:=qaj g0 hp0;refine⟨p0,nI [s|||2^x,t|||2^y],rfl,.inl (SqL.of a0),by simp,λp1 ms hp1 m1 m2=>?_⟩;obtain⟨ys,rfl,py1⟩:=qmO m1;generalize g1:upd G0 p1 _=G1;have a1:=qap g1;have t1:=t0.trans (qaj g1 hp1);refine⟨qaK (by omega) (by omega) (by decide) (by decide),qaK (by omega) (by omega) (by decide) (by decide),qau (by simp),λp2 hp2=>?_⟩;generalize g2:upd G1 p2 _=G2;have a2:=qap g2;have t2:=t1.trans (qaj g2 hp2);refine⟨p2,nI [s|||2^y,t|||2^x],rfl,.inl (SqL.of a2),by simp,λp3 ms hp3 m1' m2'=>?_⟩;obtain⟨ns,rfl,py2⟩:=qmO m1';generalize g3:upd G2 p3 _=G3;have a3:=qap g3;have t3:=t2.trans (qaj g3 hp3);have a1':=qaj g3 hp3 _ _ (qaj g2 hp2 _ _ a1);refine⟨qau (by simp),λp4 hp4=>?_⟩;exact q p4 p1 p3 ys ns _ (t3.trans (qar.new hp4)) (qaC t3 hp4) (qaC t0 hp1) (qaC t2 hp3) (qdX hp3 (qaj g2 hp2 _ _ a1)) qag (qar.new hp4 _ _ a1') (qar.new hp4 _ _ a3) py1 py2 (qsy m2) (qsy m2')
abbrev qck:Stmt:=top 74
theorem qdf:qal ["weights", "yes", "no", "bar"] ["weights", "yes", "no"] (qaf qck):=fsc
def quV (ws ys ns:List Nat)(r:V):Prop:=(∃b:Nat,r = .int (b:Nat)/\(∀s∈ys,b<=Fam.wt ws s)/\(∀t∈ns,Fam.wt ws t<b)/\(b=0\/∃t∈ns,b=Fam.wt ws t+1))\/r = .non/\∃s∈ys,∃t∈ns,Fam.wt ws s<=Fam.wt ws t
def qpD (K:W.Frag):Sp:=sp3 λx y z H Q=>∃(p py pn:Addr) (ws ys ns:List Nat),x = .ref p/\H p=some (.lst (nV ws))/\ws.length<=8/\y = .ref py/\H py=some (.lst (nV ys))/\(∀b∈ys,b<2^ws.length)/\ys.length<=1000/\z = .ref pn/\H pn=some (.lst (nV ns))/\(∀b∈ns,b<2^ws.length)/\ns.length<=1000/\∀(r:V) (H':Hp),qar H H'->quV ws ys ns r->Q r H'
theorem qf9 {f:Addr}{fd:FuncData}(F:Fun K "bar_between" "bar_between" qck f fd)(T:Txt mg){f_37:Addr}{fd_37:FuncData}(C_37:Cal P w K mg base "weight_of" 2 ["weights", "one"] (qgc K) f_37 fd_37):qaM P w K mg base CX0 3 f fd ["weights", "yes", "no"] (qpD K):=by
 have sc:=qdf;refine F.ok qdf (λvs H Q E h=>by obtain⟨_,_,_,rfl,_⟩:=h;rfl) (λcdv A outer s H vs Q E hr h=>?_);obtain⟨x0,x1,x2,rfl,h⟩:=h
 refine⟨_,(qab (qat (i:=3) sc.nd rfl (Or.inl rfl) (qan qbf (qhR (qmr (K:=K) rfl rfl) (by rfl) T.n_max PyProof.Rows.boot_max (qaa (qaH (N:=["s", "weights"]) (nt:=1) (caps:=[0]) qax rfl (qaE (pv 2)) (λ_ _ _ _ _=>(qam (i:=0) (show List.Nodup (α:=Str) ["s", "weights"] from by decide +kernel) rfl (Or.inl rfl))) qaz (λ_ _ _ _ _=>qaD) (λ_ _ _ _ _=>(pec C_37 hr (qaa (pv 1) (qaa (pv 0) qac))))) qac) (ql5 (qp5 qoX qae) qo5)) qae))
   (qab (qaA (qai qnR (qhR (qkV (K:=K) rfl rfl) (by rfl) T.n_min PyProof.Rows.boot_min (qaa (qaH (N:=["s", "weights"]) (nt:=1) (caps:=[0]) qax rfl (qaE (pv 1)) (λ_ _ _ _ _=>(qam (i:=0) (show List.Nodup (α:=Str) ["s", "weights"] from by decide +kernel) rfl (Or.inl rfl))) qaz (λ_ _ _ _ _=>qaD) (λ_ _ _ _ _=>(pec C_37 hr (qaa (pv 1) (qaa (pv 0) qac))))) qac) (ql5 (pv 3) qo5)) (pv 3) (qao _)) (qad (qah (pv 3))) qak)
   (qad (qah qdU)))),?_⟩
 refine rdg (σ':=[some x0,some x1,some x2,none]) rfl ?_;obtain⟨p,py,pn,ws,ys,ns,rfl,f1,hl,rfl,f2,hy,ly,rfl,f3,hn,ln,q⟩:=h;walk_at "rd";refine⟨⟨_,SqL.of f3⟩,qbv (fs:=ns) (λ_=>true) (λs => .int (Fam.wt ws s:Nat)) (SqL.of f3) (by omega) (λs hs H1 sm R R' r1 r2=>?_) λG1 p1 t1 hp1=>?_⟩
 . (try walk_at "rd")
   exact⟨_,_,rfl,p,ws,s,rfl,sm _ _ f1,hl,rfl,hn s hs,λH2 s2=>r1 rfl _ s2⟩
 have e:∀L:List Nat,(L.filter λ_=>true).map (λs=>V.int (Fam.wt ws s:Nat))=(L.map λs=>(Fam.wt ws s:Int)).map V.int:=λL=>by
   rw[ygd.mpr λ_ _=>rfl,ycw];rfl
 rw[e];have t1':=t1.trans (qar.new (o := .lst ((ns.map λs=>(Fam.wt ws s:Int)).map V.int)) hp1);generalize g1:upd G1 p1 _=G2;have a1:=qap g1;rw[g1] at t1';refine⟨p1,_,_,rfl,rfl,SqL.of a1,λM hM=>?_⟩
 (try walk_at "rd")
 have M0:∃b:Nat,M+1=(b:Nat)/\(∀t∈ns,Fam.wt ws t<b)/\(b=0\/∃t∈ns,b=Fam.wt ws t+1):=by
   rcases hM with⟨h0,rfl⟩ | ⟨h1,h2⟩
   . have:ns=[]:=ygm.mp h0
     exact⟨0,rfl,(λt ht=>by rw[this] at ht;cases ht),.inl rfl⟩
   . obtain⟨t,ht,rfl⟩:=ybu.mp h1
     refine⟨Fam.wt ws t+1,by omega,λu hu=>?_,.inr ⟨t,ht,rfl⟩⟩;have:=h2 _ (ybu.mpr ⟨u,hu,rfl⟩);omega
 obtain⟨b,eb,b1,b2⟩:=M0;rw[eb];refine⟨⟨_,SqL.of (t1' _ _ f2)⟩,qbv (fs:=ys) (λ_=>true) (λs => .int (Fam.wt ws s:Nat)) (SqL.of (t1' _ _ f2)) (by omega) (λs hs H1 sm R R' r1 r2=>?_) λG3 p3 t3 hp3=>?_⟩
 . (try walk_at "rd")
   exact⟨_,_,rfl,p,ws,s,rfl,sm _ _ (t1' _ _ f1),hl,rfl,hy s hs,λH2 s2=>r1 rfl _ s2⟩
 rw[e];generalize g3:upd G3 p3 _=G4;have a3:=qap g3;have t4:=(t1'.trans t3).trans (qaj g3 hp3);refine⟨p3,_,_,rfl,rfl,SqL.of a3,λL hL=>?_⟩
 (try walk_at "rd")
 refine qqz (λhc=>?_) λhc=>?_
 . refine q _ _ t4 (.inl ⟨b,rfl,λs hs=>?_,b1,b2⟩)
   rcases hL with⟨h0,rfl⟩ | ⟨h1,h2⟩
   . have:ys=[]:=ygm.mp h0
     rw[this] at hs;cases hs
   . have:=h2 _ (ybu.mpr ⟨s,hs,rfl⟩)
     omega
 . rcases hL with⟨h0,rfl⟩ | ⟨h1,h2⟩
   . exact absurd (Int.le_refl _) hc
   . obtain⟨s,hs,rfl⟩:=ybu.mp h1
     rcases b2 with rfl | ⟨t,ht,rfl⟩
     . exact absurd (yew _) hc
     . exact q _ _ t4 (.inr ⟨rfl,s,hs,t,ht,by omega⟩)
abbrev qbk:Stmt:=top 72
theorem qbz:qal ["length", "most", "told", "first"] ["length", "most"] (qaf qbk):=fsc
def qsD (K:W.Frag):Nat->Sp
 | 0=>sp2 λ_ _ _ _=>False
 | n+1=>sp2 λx y H Q=>∃l M:Nat,x = .int (l:Nat)/\l<=n/\l<=5/\y = .int ((M:Int)-1)/\M<=6/\∀(p':Addr) (ps:List Addr) (H':Hp),qar H H'->qgZ H H' p' (fl l M) ps->Q (.ref p') H'
theorem qnN {H0 H:Hp}{p:Addr}{LL MM:List (List Nat)}{ps rs:List Addr}(h:qgZ H0 H p LL ps)(hl:rs.length=MM.length)(hr:∀(j:Nat) (r:Addr) (L:List Nat),rs[j]?=some r->MM[j]?=some L->H0 r=none/\H r=some (.lst (nV L)))(hne:∀q∈ps,q≠p)(hne2:∀q∈rs,q≠p) :
 qgZ H0 (upd H p (.lst (ps.map V.ref++rs.map V.ref))) p (LL++MM) (ps++rs):=by
 refine⟨h.1,by rw[qag,ycv],by rw[ydq,ydq,h.2.2.1,hl],λj q M h1 h2=>?_⟩;by_cases hj:j<ps.length
 .rw[yfe hj] at h1
  rw[yfe (by rw[<-h.2.2.1];exact hj)] at h2;have:=h.2.2.2 j q M h1 h2;rw[qay (hne q (ycl h1))];exact this
 .rw[yfc (by omega)] at h1
  rw[yfc (by rw[<-h.2.2.1];omega),<-h.2.2.1] at h2;have:=hr _ q M h1 h2;rw[qay (hne2 q (ycl h1))];exact this
theorem qqq (n i:Nat):fl (n+1) (i+1)=fl (n+1) i++(fl n i).map (i::·):=by
 show(List.range (i+1)).flatMap _=(List.range i).flatMap _++_;rw[yds,List.flatMap_append];simp
theorem qme {n M:Nat}(hn:n<=5)(hM:M<=6):(fl n M).length<=7776:=ybn (qoR hM) (yaf (n:=6) (by decide) hn)
theorem qeS {f:Addr}{fd:FuncData}(F:Fun K "falling_lists" "falling_lists" qbk f fd)(T:Txt mg)  (n:Nat)(C_08:Cal P w K mg base "falling_lists" (1+n) ["length", "most"] (qsD K n) f fd):qaM P w K mg base CX0 (1+n+1) f fd ["length", "most"] (qsD K (n+1)):=by
 have sc:=qbz;refine F.ok qbz (λvs H Q E h=>by obtain⟨_,_,rfl,_⟩:=h;rfl) (λcdv A outer s H vs Q E hr h=>?_);obtain⟨x0,x1,rfl,h⟩:=h
 refine⟨_,(qab (qaA (qai (qav (K:=K) rfl hr.units0) (pv 0) qae (qao _)) (qad (qah (qaJ (qaa (qaJ qac) qac)))) qak)
  (qab (qat (i:=2) sc.nd rfl (Or.inl rfl) (qaJ qac))
  (qab (qaZ PassesOwn.never rfl (qaG (by rfl) T.n_range (qaa (qan qbf (pv 1) qae) qac)) (qam (i:=3) sc.nd rfl (Or.inr rfl)) (qad (qco (qbj ygw PySem.F.slot_list_extend PySem.F.type_list_extend qmW (pv 2) (qaa (qaH (N:=["others", "first"]) (nt:=1) (caps:=[3]) qax rfl (qb1 (K:=K) rfl (qoQ C_08 hr (by omega) (by rfl) (qaa (qan qic (pv 0) qae) (qaa (qan qic (pv 3) qae) qac)))) (λ_ _ _ _ _=>(qam (i:=0) (show List.Nodup (α:=Str) ["others", "first"] from by decide +kernel) rfl (Or.inl rfl))) qaz (λ_ _ _ _ _=>qaD) (λ_ _ _ _ _=>(qan (qb4 (K:=K) rfl) (qaJ (qaa (pv 1) qac)) (pv 0)))) qac)))))
  (qad (qah (pv 2)))))),?_⟩
 refine rdg (σ':=[some x0,some x1,none,none]) rfl ?_;obtain⟨l,M,rfl,hl,hl5,rfl,hM,q⟩:=h;walk_at "rd";by_cases c:l=0
 .subst c
  rw[if_pos (by rfl)];refine⟨qau (by simp),λp1 hp1=>⟨qau (by simp),λp2 hp2=>?_⟩⟩;have n12:p1≠p2:=qdX hp2 (show upd H p1 (.lst []) p1=some (.lst []) from qag);refine q p2 [p1] _ ((qar.new hp1).trans (qar.new hp2)) ⟨qaC (qar.new hp1) hp2,qag,rfl,λj r L h1 h2=>?_⟩
  match j with
  | 0 =>
   cases h1;cases h2;exact⟨hp1,by rw[qay n12,qag];rfl⟩
  | j+1=>cases h1
 obtain⟨l',rfl⟩:∃l',l=l'+1:=⟨l-1,by omega⟩;obtain⟨n',rfl⟩:∃n',n=n'+1:=⟨n-1,by omega⟩;rw[if_neg (by omega)];refine⟨qau (by simp),λp0 hp0=>?_⟩;generalize g0:upd H p0 _=G0;have a0:=qap g0;have t0:=qaj g0 hp0;rw[show((M:Int)-1+1)=((M:Nat):Int) by omega];refine⟨by omega,by omega,?_⟩;rw[yfg];refine qeM (λi σ H3=>∃(v:Option V) (ps:List Addr),σ=[some (.int ((l'+1:Nat))),some (.int ((M:Int)-1)),some (.ref p0),v]/\qar H H3/\qgZ H H3 p0 (fl (l'+1) i) ps/\∀r∈ps,r≠p0) ⟨none,[],rfl,t0,⟨hp0,a0,rfl,λj r L z=>(by cases z)⟩,λr hr=>(by cases hr)⟩ ?_ ?_
 .rintro i σ H3 hi ⟨v,ps,rfl,s3,L3,hne⟩ N hN
  (try walk_at "rd")
  refine⟨qaX L3.2.1,_,_,rfl,l',i,congrArg V.int (by omega),by omega,by omega,rfl,by omega,λp5 qs H5 s5 L5=>?_⟩;have lq:qs.length<=7776:=by rw[L5.2.2.1];exact qme (by omega) (by omega)
  have lp:ps.length<=7776:=by rw[L3.2.2.1];exact qme hl5 (by omega)
  refine⟨p5,rfl,⟨_,SqL.of L5.2.1⟩,qfL (xs:=qs.map V.ref) (λk ys H6=>∃rs:List Addr,ys=rs.map V.ref/\rs.length=k/\qar H5 H6/\∀(j:Nat) (r:Addr) (L:List Nat),rs[j]?=some r->(fl l' i)[j]?=some L->H5 r=none/\H6 r=some (.lst (nV (i::L)))) ⟨[],rfl,rfl,qar.refl _,λj r L z=>(by cases z)⟩ (qau (by rw[ycd];omega)) (λk ys H6 hk ⟨rs,e1,e2,s6,_⟩=>⟨SqL.of (s6 _ _ L5.2.1),by rw[e1,ycd];omega⟩) (λk z ys H6 hz ⟨rs,e1,e2,s6,h6⟩ R R' r1 r2=>?_) λys H6 ⟨rs,e1,e2,s6,h6⟩ pz hpz=>?_⟩
  .obtain⟨qa,ea,rfl⟩:=qgB hz
   obtain⟨qa',La,ea',eL,mL,aq⟩:=L5.at (ycm.mp ea).1;rw[ea] at ea';cases ea';have aq:=s6 _ _ aq;have lL:=qfn mL
   (try walk_at "rd")
   refine⟨qau (by simp),λp7 hp7=>?_⟩;generalize g7:upd H6 p7 _=G7;have a7:G7 p7=some (.lst (nV [i])):=qap g7;have aq:=qaj g7 hp7 _ _ aq;refine⟨p7,qa,_,_,rfl,rfl,SqL.of a7,SqL.of aq,qau (by rw[qaP,qaP,lL];simp;omega),λp8 hp8=>?_⟩;rw[qhX];have s8:=(s6.trans (qaj g7 hp7)).trans (qar.new (o := .lst (nV ([i]++La))) hp8);refine r1 _ _ ⟨rs++[p8],by rw[e1,ycv];rfl,by simp[e2],s8,λj r L h1 h2=>?_⟩
   have hj:j<rs.length\/j=rs.length:=by
    have:=(ycm.mp h1).1;simp at this;omega
   rcases hj with hj | hj
   .rw[yfe hj] at h1
    obtain⟨b1,b2⟩:=h6 j r L h1 h2;exact⟨b1,(qar.new hp8) _ _ (qaj g7 hp7 _ _ b2)⟩
   .subst hj
    rw[yfc (yaz _),ygf] at h1;cases h1;rw[e2,eL] at h2;cases h2;exact⟨qaC (s6.trans (qaj g7 hp7)) hp8,qag⟩
  .generalize gz:upd H6 pz _=Gz
   have az:=qap gz;have sz:=qaj gz hpz;rw[e1] at az;have sH:=(s3.trans s5).trans (s6.trans sz);have b0:=((s5.trans s6).trans sz) _ _ L3.2.1;have nz:pz≠p0:=Ne.symm (qdX hpz ((s5.trans s6) _ _ L3.2.1))
   have nrs:∀r∈rs,r≠p0:=λr hr z=>by
    obtain⟨j,hj,e⟩:=ygg.mp hr;have hj2:j<(fl l' i).length:=by rw[<-L5.2.2.1];rw[ycd] at e2;omega
    have:=(h6 j r _ (by rw[yck hj,e]) (yck hj2)).1;rw[z,s5 _ _ L3.2.1] at this;cases this
   refine⟨p0,pz,_,_,rfl,rfl,b0,az,qau (by rw[ycd,ycd];rw[ycd] at e2;omega),?_⟩;refine hN _ _ ⟨_,ps++rs,rfl,sH.upd hp0,?_,λr hr=>?_⟩
   .rw[qqq]
    refine qnN (L3.mono ((s5.trans s6).trans sz)) ?_ (λj r L h1 h2=>?_) hne λr hr=>?_
    .rw[e2,ycd,ycd,L5.2.2.1]
    .rw[ycp] at h2
     cases eL:(fl l' i)[j]? with
     | none=>rw[eL] at h2;cases h2
     | some L' =>
      rw[eL] at h2;cases h2;obtain⟨b1,b2⟩:=h6 j r L' h1 eL;exact⟨qaC (s3.trans s5) b1,sz _ _ b2⟩
    .exact nrs r hr
   .rcases yav.mp hr with z | z
    .exact hne r z
    .exact nrs r z
 .rintro σ H3 ⟨v,ps,rfl,s3,L3,hne⟩
  (try walk_at "rd")
  exact q p0 ps _ s3 L3
theorem qfN {f:Addr}{fd:FuncData}(F:Fun K "falling_lists" "falling_lists" qbk f fd):qaM P w K mg base CX0 (1+0) f fd ["length", "most"] (qsD K 0):=by
 refine F.ok (k:=0) qbz (λvs H Q E h=>?_) (λcdv A outer s H vs Q E hr h=>?_)
 .obtain⟨_,_,rfl,h⟩:=h
  exact absurd h id
 .obtain⟨_,_,rfl,h⟩:=h
  exact absurd h id
abbrev qdp:Stmt:=top 73
theorem qeC:qal ["many", "lists", "falling", "weights", "names", "weight", "k"] ["many", "lists", "falling"] (qaf qdp):=fsc
theorem qsx (L:List Nat)(j b:Nat):(nV L).set j (V.int (b:Nat))=nV (L.set j b):=by
 rw[nV,nV,nI,nI,List.map_set,List.map_set]
theorem qj9 (m:Nat):(List.replicate ((m:Int).toNat) [V.int 0]).flatten=nV (List.replicate m 0):=by
 rw[yfg]
 induction m with
 | zero=>rfl
 | succ m ih=>rw[yfl,yfm,ih,yfl];rfl
def qnb (K:W.Frag):Sp:=sp3 λx y z H Q=>∃(m:Nat) (p:Addr) (ps:List Addr) (LL:List (List Nat)) (pf:Addr) (F:List Nat),x = .int (m:Nat)/\m<=8/\y = .ref p/\H p=some (.lst (ps.map V.ref))/\ps.length=LL.length/\(∀(j:Nat) (r:Addr) (L:List Nat),ps[j]?=some r->LL[j]?=some L->H r=some (.lst (nV L)))/\z = .ref pf/\H pf=some (.lst (nV F))/\F.length=LL.length/\LL.flatten.Nodup/\(∀k∈LL.flatten,k<m)/\∀(p':Addr) (N:List Nat) (H':Hp),H p'=none->qar H H'->H' p'=some (.lst (nV N))->Gvn m LL F N->Q (.ref p') H'
theorem qkk {LL:List (List Nat)}(h:LL.flatten.Nodup){i j:Nat}(hij:j<i){L M:List Nat}(e1:LL[j]?=some L)(e2:LL[i]?=some M){k:Nat}(h1:k∈L)(h2:k∈M):False:=by
 unfold List.Nodup at h;rw[ygi] at h;obtain⟨l1,e1⟩:=ycm.mp e1;obtain⟨l2,e2⟩:=ycm.mp e2;have:=ycn.mp h.2 j i l1 l2 hij;rw[e1,e2] at this;exact this k h1 k h2 rfl
theorem qhr {f:Addr}{fd:FuncData}(F:Fun K "given_out" "given_out" qdp f fd)(T:Txt mg)  : qaM P w K mg base CX0 1 f fd ["many", "lists", "falling"] (qnb K):=by
 have sc:=qeC;refine F.ok qeC (λvs H Q E h=>by obtain⟨_,_,_,rfl,_⟩:=h;rfl) (λcdv A outer s H vs Q E hr h=>?_);obtain⟨x0,x1,x2,rfl,h⟩:=h
 refine⟨_,(qab (qat (i:=3) sc.nd rfl (Or.inl rfl) (qan qrW (qaJ (qaa qae qac)) (pv 0)))
  (qab (qaZ PassesOwn.never rfl (qsN (K:=K) rfl (by rfl) T.n_zip (qaa (pv 1) (qaa (pv 2) qac))) (qgq (n:=2) rfl (qa1 (qam (i:=4) sc.nd rfl (Or.inl rfl)) (qa1 (qam (i:=5) sc.nd rfl (Or.inl rfl)) qen))) (qad (qaZ PassesOwn.never rfl (qaE (pv 4)) (qam (i:=6) sc.nd rfl (Or.inl rfl)) (qad (qmC (pv 5) (qrv (pv 3) (pv 6) qnI))))))
  (qad (qah (pv 3))))),?_⟩
 refine rdg (σ':=[some x0,some x1,some x2,none,none,none,none]) rfl ?_;obtain⟨m,p,ps,LL,pf,F,rfl,hm,rfl,f1,lps,hps,rfl,f2,lF,nd,hlt,q⟩:=h;walk_at "rd";refine⟨qau (by simp),λpz hpz=>?_⟩;generalize gz:upd H pz _=Gz;have az:=qap gz;have tz:=qaj gz hpz;refine⟨pz,m,_,rfl,rfl,az,by omega,by omega,qau (by simp;omega),λp0 hp0=>?_⟩;rw[qj9];generalize g0:upd Gz p0 _=G0;have a0:=qap g0;have t0:=tz.trans (qaj g0 hp0);have hp0':=qaC tz hp0
 (try walk_at "rd")
 refine⟨_,_,⟨rfl,rfl⟩,_,SqL.of (t0 _ _ f1),_,SqL.of (t0 _ _ f2),?_⟩;refine qtc (xs:=ps.map V.ref) (ys:=nV F) (by rw[qaP,ycd];omega) (λi σ H3=>∃(v1 v2 v3:Option V) (N:List Nat),σ=[some (.int (m:Nat)),some (.ref p),some (.ref pf),some (.ref p0),v1,v2,v3]/\qar H H3/\H3 p0=some (.lst (nV N))/\N.length=m/\∀(j:Nat) (L:List Nat) (v:Nat),j<i->LL[j]?=some L->F[j]?=some v->∀k∈L,N.getD k 0=v) ⟨none,none,none,_,rfl,t0,a0,by simp,λj L v z=>absurd z (ygn j)⟩ (λi σ H3 _ ⟨_,_,_,_,_,s3,_⟩=>⟨SqL.of (s3 _ _ f1),SqL.of (s3 _ _ f2)⟩) ?_ ?_
 .rintro i x y σ H3 t hx hy ⟨v1,v2,v3,N0,rfl,s3,b0,lN,g3⟩ ht N hN
  obtain⟨qa,ea,rfl⟩:=qgB hx;obtain⟨w,ew,rfl⟩:=qjS hy;have hi:i<LL.length:=by rw[<-lps];exact(ycm.mp ea).1
  have eL:=yck hi;generalize LL[i]=La at eL;have aq:=s3 _ _ (hps i qa La ea eL);have nqa:qa≠p0:=qdX hp0' (hps i qa La ea eL)
  (try walk_at "rd")
  generalize g4:upd H3 t _=G4;have a4:=qap g4;have s4:=s3.trans (qaj g4 ht);have b4:=qaj g4 ht _ _ b0;have aq4:=qaj g4 ht _ _ aq;refine⟨_,SqT.of a4,rfl,_,_,rfl,_,_,rfl,rfl,qa,rfl,⟨_,SqL.of aq4⟩,?_⟩;refine qhF (fs:=La) (λk σ H5=>∃(v3:Option V) (N1:List Nat),σ=[some (.int (m:Nat)),some (.ref p),some (.ref pf),some (.ref p0),some (.ref qa),some (.int (w:Nat)),v3]/\qar H H5/\H5 p0=some (.lst (nV N1))/\H5 qa=some (.lst (nV La))/\N1.length=m/\(∀(j:Nat) (L:List Nat) (v:Nat),j<i->LL[j]?=some L->F[j]?=some v->∀k∈L,N1.getD k 0=v)/\∀k'∈La.take k,N1.getD k' 0=w) ⟨_,N0,rfl,s4,b4,aq4,lN,g3,λk' z=>(by simp at z)⟩ (λk σ H5 _ ⟨_,_,_,_,_,e,_⟩=>SqL.of e) ?_ ?_
  .rintro k b σ H5 hb ⟨v,N1,rfl,s5,b5,aq5,lN1,g5,g6⟩ N2 hN2
   (try walk_at "rd")
   have bm:b∈La:=ycl hb;have hbm:b<m:=hlt b (ygh.mpr ⟨La,ycl eL,bm⟩);refine⟨p0,_,_,b,rfl,rfl,b5,qs3 (by rw[qaP];omega),?_⟩;rw[qsx]
   have gs:∀k',(N1.set b w).getD k' 0=if b=k' then w else N1.getD k' 0:=λk'=>by
    rw[ycj,List.getElem?_set,ycj];by_cases c:b=k'
    .rw[if_pos c,if_pos c,if_pos (by omega)];rfl
    .rw[if_neg c,if_neg c]
   refine hN2 _ _ ⟨_,N1.set b w,rfl,s5.upd hp0',qag,by rw[qay nqa];exact aq5,by simp[lN1],λj L v hj h1 h2 k' hk'=>?_,λk' hk'=>?_⟩
   .rw[gs,if_neg (λz:b=k'=>qkk nd hj h1 eL hk' (z▸bm))]
    exact g5 j L v hj h1 h2 k' hk'
   .rw[gs]
    by_cases c:b=k'
    .rw[if_pos c]
    .rw[if_neg c]
     rw[ygq,hb] at hk';rcases yav.mp hk' with z | z
     .exact g6 k' z
     .exact absurd (show b=k' by have z':k'=b:=(by simpa using z);exact z'.symm) c
  .rintro σ H5 ⟨v,N1,rfl,s5,b5,aq5,lN1,g5,g6⟩
   refine hN _ _ ⟨_,_,_,N1,rfl,s5,b5,lN1,λj L v hj h1 h2 k hk=>?_⟩;by_cases c:j=i
   .subst c
    rw[eL] at h1;rw[ew] at h2;cases h1;cases h2;exact g6 k (by rw[ydi];exact hk)
   .exact g5 j L v (by omega) h1 h2 k hk
 .rintro σ H3 ⟨v1,v2,v3,N0,rfl,s3,b0,lN,g3⟩
  (try walk_at "rd")
  exact q p0 N0 _ hp0' s3 b0 ⟨lN,λj L v h1 h2=>g3 j L v (by rw[ycd,lps];exact(ycm.mp h1).1) h1 h2⟩
abbrev qfQ:Stmt:=top 71
theorem qgu:qal ["many", "family", "lists", "yes", "no", "falling", "weights", "bar"] ["many", "family", "lists"] (qaf qfQ):=fsc
/-- the first falling list that fits,and its bar -/
def WgF (m:Nat)(fs N:List Nat)(b:Nat):Prop:=∃(j:Nat) (F:List Nat),(fl (rkd (Fam.trns m (Fam.sayP fs))).length 6)[j]?=some F/\Gvn m (rkd (Fam.trns m (Fam.sayP fs))) F N/\(∀s∈Fam.mins fs,b<=Fam.wt N s)/\(∀t∈Fam.rsts m (Fam.hits m fs),Fam.wt N t<b)/\(b=0\/∃t∈Fam.rsts m (Fam.hits m fs),b=Fam.wt N t+1)/\∀(j':Nat) (G:List Nat),j'<j->(fl (rkd (Fam.trns m (Fam.sayP fs))).length 6)[j']?=some G->∀M,Gvn m (rkd (Fam.trns m (Fam.sayP fs))) G M->∃s∈Fam.mins fs,∃t∈Fam.rsts m (Fam.hits m fs),Fam.wt M s<=Fam.wt M t
theorem qt9 {m:Nat}{fs N N':List Nat}{b b':Nat}(h:WgF m fs N b)(h':WgF m fs N' b'):N=N'/\b=b':=by
 obtain⟨j,F,e,g,h1,h2,h3,h4⟩:=h;obtain⟨i,F',e',g',h1',h2',h3',h4'⟩:=h'
 have no:∀{N:List Nat}{b:Nat},(∀s∈Fam.mins fs,b<=Fam.wt N s)->(∀t∈Fam.rsts m (Fam.hits m fs),Fam.wt N t<b)->¬∃s∈Fam.mins fs,∃t∈Fam.rsts m (Fam.hits m fs),Fam.wt N s<=Fam.wt N t:=λa c ⟨s,hs,t,ht,hl⟩=>by
  have:=a s hs;have:=c t ht;omega
 have eij:j=i:=by
  rcases yco j i with z | z | z
  .exact absurd (h4' j F z e N g) (no h1 h2)
  .exact z
  .exact absurd (h4 i F' z e' N' g') (no h1' h2')
 subst eij;rw[e] at e';cases e';have lF:F.length=(rkd (Fam.trns m (Fam.sayP fs))).length:=qfn (ycl e);have ll:=qbe m (Fam.sayP fs);have eN:N=N':=qoW lF (by rw[ll];exact g) (by rw[ll];exact g');subst eN;refine⟨rfl,?_⟩;rcases h3 with rfl | ⟨t,ht,rfl⟩<;>rcases h3' with rfl | ⟨t',ht',rfl⟩
 .rfl
 .exact absurd (h2 t' ht') (ygn _)
 .exact absurd (h2' t ht) (ygn _)
 .have:=h2 t' ht'
  have:=h2' t ht;omega
theorem qlN:∀{n M:Nat}{F:List Nat},F∈fl n M->∀x∈F,x<M
 | 0,_,F,h,x,hx=>by
  have:F=[]:=by simpa[fl] using h
  rw[this] at hx;cases hx
 | n+1,M,F,h,x,hx=>by
  obtain⟨a,ha,h1⟩:=yda.mp h;obtain⟨G,h2,rfl⟩:=ybu.mp h1;have ha:=ybj.mp ha;rcases ybf.mp hx with rfl | hx
  .exact ha
  .exact ybp (qlN h2 x hx) ha
theorem qlM {c:Nat}:∀{l:List Nat},(∀x∈l,x<=c)->l.sum<=l.length*c
 | [],_=>by simp
 | a::l,h=>by
  have h1:=qlM (l:=l) λx hx=>h x (ybg _ hx);have h2:=h a ybd;rw[ych,ycb,yfo];omega
theorem qiR {m:Nat}{fs N:List Nat}{b:Nat}(h:WgF m fs N b):N.length=m/\(∀n∈N,n<=5)/\b<=41:=by
 obtain⟨j,F,e,g,h1,h2,h3,h4⟩:=h
 have lo:∀n∈N,n<=5:=λn hn=>by
  obtain⟨k,hk,rfl⟩:=ygg.mp hn;have km:k∈(rkd (Fam.trns m (Fam.sayP fs))).flatten:=qcm.mpr (by rw[qbe];rw[g.1] at hk;exact hk);obtain⟨L,hL,kL⟩:=ygh.mp km;obtain⟨i,hi,rfl⟩:=ygg.mp hL;have hF:i<F.length:=by rw[qfn (ycl e)];exact hi
  have:=g.2 i _ F[i] (yck hi) (yck hF) k kL;rw[ycj,yck hk] at this;have z:=qlN (ycl e) F[i] (ydp hF);have this:N[k]=F[i]:=this;omega
 refine⟨g.1,lo,?_⟩;rcases h3 with rfl | ⟨t,_,rfl⟩
 .decide
 have:Fam.wt N t<=((Fam.nms 8 t).map λk=>N.getD k 0).length*5:=qlM λx hx=>by
  obtain⟨k,_,rfl⟩:=ybu.mp hx;rw[ycj];cases ek:N[k]? with
  | none=>exact ybz _
  | some n=>exact lo n (ycl ek)
 have l8:(Fam.nms 8 t).length<=8:=ybn (ybo _ _) (by simp);rw[ycd] at this;omega
def qr1 (K:W.Frag):Sp:=sp3 λx y z H Q=>∃(m:Nat) (p pl:Addr) (fs:List Nat) (ps:List Addr) (H0:Hp),x = .int (m:Nat)/\m<=5/\y = .ref p/\H p=some (.lst (nV fs))/\fs.length<=63/\fs.Pairwise (· < ·)/\(∀b∈fs,b<2^m)/\qit m (Fam.sayP fs) m 0/\z = .ref pl/\qgZ H0 H pl (rkd (Fam.trns m (Fam.sayP fs))) ps /\
 ∀(t pw:Addr) (N:List Nat) (b:Nat) (H':Hp),qar H H'->H t=none->H pw=none->H' t=some (.tup [.str "weights",.ref pw,.int (b:Nat)])->H' pw=some (.lst (nV N))->N.length=m->(∀s,s<2^m->Fam.sayP fs s=decide (b<=Fam.wt N s))->WgF m fs N b->Q (.ref t) H'
theorem quO {A B:Prop}[Decidable (V.non=V.non)](h:A):if V.non=V.non then A else B:=by
 rw[if_pos rfl];exact h
theorem quU {b:Int}{A B:Prop}[Decidable (V.int b=V.non)](h:B):if V.int b=V.non then A else B:=by
 rw[if_neg (λz=>by cases z)];exact h
theorem qkn {f:Addr}{fd:FuncData}(F:Fun K "weighed" "weighed" qfQ f fd)(T:Txt mg){f_64:Addr}{fd_64:FuncData}(C_64:Cal P w K mg base "least" 3 ["some"] (qlh K) f_64 fd_64){f_53:Addr}{fd_53:FuncData}(C_53:Cal P w K mg base "noes_by" 4 ["many", "family"] (qjH K) f_53 fd_53){f_08:Addr}{fd_08:FuncData}(C_08:Cal P w K mg base "falling_lists" 7 ["length", "most"] (qsD K 6) f_08 fd_08){f_38:Addr}{fd_38:FuncData}(C_38:Cal P w K mg base "given_out" 1 ["many", "lists", "falling"] (qnb K) f_38 fd_38){f_20:Addr}{fd_20:FuncData}(C_20:Cal P w K mg base "bar_between" 3 ["weights", "yes", "no"] (qpD K) f_20 fd_20):qaM P w K mg base CX0 8 f fd ["many", "family", "lists"] (qr1 K):=by
 have sc:=qgu;refine F.ok qgu (λvs H Q E h=>by obtain⟨_,_,_,rfl,_⟩:=h;rfl) (λcdv A outer s H vs Q E hr h=>?_);obtain⟨x0,x1,x2,rfl,h⟩:=h
 refine⟨_,(qab (qat (i:=3) sc.nd rfl (Or.inl rfl) (pec C_64 hr (qaa (pv 1) qac)))
  (qab (qat (i:=4) sc.nd rfl (Or.inl rfl) (pec C_53 hr (qaa (pv 0) (qaa (pv 1) qac))))
  (qad (qaZ PassesOwn.never rfl (qb1 (K:=K) rfl (pec C_08 hr (qaa (qas (qaB (K:=K) rfl) (by rfl) T.n_len PySem.boot_len (qaa (pv 2) qac)) (qaa (qc9 T.c_MOST_WEIGHT (by rfl)) qac)))) (qam (i:=5) sc.nd rfl (Or.inl rfl)) (qab (qat (i:=6) sc.nd rfl (Or.inl rfl) (pec C_38 hr (qaa (pv 0) (qaa (pv 2) (qaa (pv 5) qac)))))
  (qab (qat (i:=7) sc.nd rfl (Or.inl rfl) (pec C_20 hr (qaa (pv 6) (qaa (pv 3) (qaa (pv 4) qac)))))
  (qad (qaA (qai qlo (pv 7) qdU (qao _)) (qad (qah (qb9 (qaa qaq (qaa (pv 6) (qaa (pv 7) qac)))))) qak)))))))),?_⟩
 refine rdg (σ':=[some x0,some x1,some x2,none,none,none,none,none]) rfl ?_;obtain⟨m,p,pl,fs,ps,H0,rfl,hm,rfl,f1,lf,hr,hb,hno,rfl,L0,q⟩:=h;have h8:m<=8:=by omega
 have p8:2^m<=256:=yaf (n:=2) (by decide) h8;have lk:(rkd (Fam.trns m (Fam.sayP fs))).length<=5:=ybn (qji _) (by rw[qbe];exact hm);walk_at "rd";refine⟨_,rfl,p,fs,rfl,SqL.of f1,lf,λH1 py hpy s1 a1=>?_⟩;have f1':=s1 _ _ f1
 (try walk_at "rd")
 refine⟨_,_,rfl,m,p,fs,rfl,hm,rfl,f1',λH2 pn hpn s2 a2=>?_⟩;have a1:=s2 _ _ a1;have s12:=s1.trans s2;have L2:=L0.mono s12;rw[ql3 hr] at a1
 (try walk_at "rd")
 generalize eLL:rkd (Fam.trns m (Fam.sayP fs))=LL at *;refine⟨_,.inl (SqL.of L2.2.1),?_⟩;rw[ycd,L2.2.2.1];refine⟨_,_,rfl,LL.length,6,rfl,by omega,by omega,rfl,by omega,λpa qs H3 s3 L3=>?_⟩;have lm:(Fam.mins fs).length<=1000:=ybn (Fam.pick_len _ _) (by omega)
 have lo:(Fam.rsts m (Fam.hits m fs)).length<=256:=by
  unfold Fam.rsts;rw[ygj,ycd];exact ybn (Fam.pick_len _ _) (by rw[ygk];exact p8)
 refine⟨pa,rfl,⟨_,SqL.of L3.2.1⟩,qgr (xs:=qs.map V.ref) (λi σ H4=>∃(v1 v2 v3:Option V),σ=[some (.int (m:Nat)),some (.ref p),some (.ref pl),some (.ref py),some (.ref pn),v1,v2,v3]/\qar H3 H4/\∀(j:Nat) (F:List Nat),j<i->(fl LL.length 6)[j]?=some F->∀N,Gvn m LL F N->∃s∈Fam.mins fs,∃t∈Fam.rsts m (Fam.hits m fs),Fam.wt N s<=Fam.wt N t) ⟨none,none,none,rfl,qar.refl _,λj F z=>absurd z (ygn j)⟩ (λi σ H4 _ ⟨_,_,_,_,s4,_⟩=>SqL.of (s4 _ _ L3.2.1)) ?_ ?_⟩
 .rintro i x σ H4 hx ⟨v1,v2,v3,rfl,s4,g4⟩ N hN
  obtain⟨qa,ea,rfl⟩:=qgB hx;obtain⟨qa',F,ea',eF,mF,aq⟩:=L3.at (ycm.mp ea).1;rw[ea] at ea';cases ea';have aq:=s4 _ _ aq;have L4:=L2.mono (s3.trans s4)
  have fl1:∀k∈LL.flatten,k<m:=λk hk=>by
   rw[<-eLL] at hk;have:=qcm.mp hk
   rwa [qbe] at this
  have nd:LL.flatten.Nodup:=by rw[<-eLL];exact qd2 _
  (try walk_at "rd")
  refine⟨_,_,_,rfl,m,pl,ps,LL,qa,F,rfl,h8,rfl,L4.2.1,L4.2.2.1,λj r L h1 h2=>(L4.2.2.2 j r L h1 h2).2,rfl,aq,qfn mF,nd,fl1,λpw W H5 hpw s5 a5 gv=>?_⟩
  (try walk_at "rd")
  have s5':=(s3.trans s4).trans s5;have lW:W.length=m:=gv.1;refine⟨_,_,_,rfl,pw,py,pn,W,Fam.mins fs,Fam.rsts m (Fam.hits m fs),rfl,a5,by omega,rfl,s5' _ _ a1,λb h=>by rw[lW];exact hb b (Fam.mins_sub hr b h),lm,rfl,s5' _ _ a2,λb h=>by rw[lW];exact Fam.rsts_lt b h,by omega,λr H6 s6 hB=>?_⟩
  (try walk_at "rd")
  rcases hB with⟨b,rfl,b1,b2,b3⟩ | ⟨rfl,hx'⟩
  .refine⟨rfl,true,by simp,qeK ⟨qau (by simp),λt ht=>?_⟩⟩
   have s7:=(s12.trans s5').trans s6
   have hW:WgF m fs W b:=by
    unfold WgF;rw[eLL];exact⟨i,F,eF,gv,b1,b2,b3,g4⟩
   refine q t pw W b _ (s7.trans (qar.new ht)) (qaC s7 ht) (qaC (s12.trans (s3.trans s4)) hpw) qag (qar.new ht _ _ (s6 _ _ a5)) lW (λs hs=>?_) hW;cases e:Fam.sayP fs s with
   | true =>
    rw[<-Fam.say_mins hr] at e;obtain⟨c,hc,sc⟩:=Fam.sayP_iff.mp e;exact(decide_eq_true (ybn (b1 c hc) (Fam.wt_sub sc))).symm
   | false =>
    have:=Fam.held_rests hr hb hs;rw[e] at this;obtain⟨c,hc,sc⟩:=Fam.heldP_iff.mp this;have h1:=b2 c hc;have h2:=Fam.wt_sub (ws:=W) sc;exact(decide_eq_false (by omega)).symm
  .refine⟨rfl,false,by simp,qcA ?_⟩
   refine hN _ _ ⟨_,_,_,rfl,(s4.trans s5).trans s6,λj G hj eG M gM=>?_⟩;by_cases c:j=i
   .subst c
    rw[eF] at eG;cases eG
    have:M=W:=by
     rw[<-eLL] at gM gv;have lF:=qfn mF;rw[<-eLL] at lF;have e:=qbe m (Fam.sayP fs);exact qoW lF (by rw[e];exact gM) (by rw[e];exact gv)
    rw[this];exact hx'
   .exact g4 j G (by omega) eG M gM
 .rintro σ H4 ⟨v1,v2,v3,rfl,s4,g4⟩
  exfalso;obtain⟨F,N,b,lF,pF,F5,gv,hf⟩:=qsm hm (Fam.up_say m fs) hno;rw[eLL] at lF gv;have mF:=qpF (M:=6) pF λx hx=>by have:=F5 x hx;omega
  rw[lF] at mF;obtain⟨j,hj,e⟩:=ygg.mp mF;have lq:qs.length=(fl LL.length 6).length:=L3.2.2.1;obtain⟨s,hs,t,ht,hle⟩:=g4 j F (by rw[ycd];omega) (by rw[yck hj,e]) N gv;have s1:Fam.sayP fs s=true:=Fam.sayP_iff.mpr ⟨s,Fam.mins_sub hr s hs,Fam.sub_refl s⟩;have s2:Fam.heldP (Fam.rsts m (Fam.hits m fs)) t=true:=Fam.heldP_iff.mpr ⟨t,ht,Fam.sub_refl t⟩;rw[Fam.held_rests hr hb (Fam.rsts_lt t ht)] at s2;rw[hf s (hb s (Fam.mins_sub hr s hs)),decide_eq_true_eq] at s1;rw[hf t (Fam.rsts_lt t ht)] at s2;have:¬b<=Fam.wt N t:=by simpa using s2
  omega
abbrev qcL:Stmt:=top 69
theorem qd6:qal ["many", "family", "told"] ["many", "family"] (qaf qcL):=fsc
/-- what by_weights tells -/
inductive Vt
 | w (N:List Nat) (b:Nat)
 | t (ys ns:List Nat)
def VtR (m:Nat)(fs:List Nat):Vt->Prop
 | .w N b=>qit m (Fam.sayP fs) m 0/\WgF m fs N b/\∀s,s<2^m->Fam.sayP fs s=decide (b<=Fam.wt N s)
 | .t ys ns=>∃x y s u:Nat,x<y/\y<m/\qit m (Fam.sayP fs) x y/\Fam.part m (Fam.sayP fs) x y=some s/\Fam.part m (Fam.sayP fs) y x=some u/\ys.Perm [s|||2^x,u|||2^y]/\ns.Perm [s|||2^y,u|||2^x]/\ys.Pairwise (·<=·)/\ns.Pairwise (·<=·)
def VtH (H:Hp)(t:Addr):Vt->Prop
 | .w N b=>∃pw,H t=some (.tup [.str "weights",.ref pw,.int (b:Nat)])/\H pw=some (.lst (nV N))
 | .t ys ns=>∃p1 p2,H t=some (.tup [.str "trade",.ref p1,.ref p2])/\H p1=some (.lst (nV ys))/\H p2=some (.lst (nV ns))
def VtB (m:Nat):Vt->Prop
 | .w N b=>N.length=m/\(∀n∈N,n<=256)/\b<=256
 | .t ys ns=>ys.length=2/\ns.length=2/\(∀b∈ys,b<2^m)/\∀b∈ns,b<2^m
theorem qmk {m:Nat}{fs:List Nat}:∀{v:Vt},VtR m fs v->VtB m v
 | .w N b,⟨_,h,_⟩=>by
  obtain⟨h1,h2,h3⟩:=qiR h;exact⟨h1,λn hn=>ybn (h2 n hn) (by decide),ybn h3 (by decide)⟩
 | .t ys ns,⟨x,y,s,u,a1,a2,_,p1,p2,q1,q2,_,_⟩=>by
  have px:2^x<2^m:=ybs (by decide) (by omega);have py:2^y<2^m:=ybs (by decide) a2;have hs:=(Fam.part_some p1).1;have hu:=(Fam.part_some p2).1;refine⟨q1.length_eq,q2.length_eq,λb hb=>?_,λb hb=>?_⟩
  .have:=q1.mem_iff.mp hb
   simp only[ybf,ydz,or_false] at this;rcases this with rfl | rfl
   .exact ybr hs px
   .exact ybr hu py
  .have:=q2.mem_iff.mp hb
   simp only[ybf,ydz,or_false] at this;rcases this with rfl | rfl
   .exact ybr hs py
   .exact ybr hu px
theorem VtH.mono {H H':Hp}{t:Addr}(s:qar H H'):∀{v:Vt},VtH H t v->VtH H' t v
 | .w N b,⟨pw,h1,h2⟩=>⟨pw,s _ _ h1,s _ _ h2⟩
 | .t ys ns,⟨p1,p2,h1,h2,h3⟩=>⟨p1,p2,s _ _ h1,s _ _ h2,s _ _ h3⟩
def qux (K:W.Frag):Sp:=sp2 λx y H Q=>∃(m:Nat) (p:Addr) (fs:List Nat),x = .int (m:Nat)/\m<=5/\y = .ref p/\H p=some (.lst (nV fs))/\fs.length<=63/\fs.Pairwise (· < ·)/\(∀b∈fs,b<2^m)/\∀t v H',qar H H'->VtR m fs v->VtH H' t v->Q (.ref t) H'
theorem qgP {f:Addr}{fd:FuncData}(F:Fun K "by_weights" "by_weights" qcL f fd)(T:Txt mg){f_67:Addr}{fd_67:FuncData}(C_67:Cal P w K mg base "ranks" 5 ["many", "family"] (qi9 K) f_67 fd_67){f_54:Addr}{fd_54:FuncData}(C_54:Cal P w K mg base "weighed" 8 ["many", "family", "lists"] (qr1 K) f_54 fd_54){f_61:Addr}{fd_61:FuncData}(C_61:Cal P w K mg base "traded" 1 ["x", "y", "s", "t"] qjp f_61 fd_61):qaM P w K mg base CX0 9 f fd ["many", "family"] (qux K):=by
 have sc:=qd6;refine F.ok qd6 (λvs H Q E h=>by obtain⟨_,_,rfl,_⟩:=h;rfl) (λcdv A outer s H vs Q E hr h=>?_);obtain⟨x0,x1,rfl,h⟩:=h
 refine⟨_,(qab (qaA (qai qn8 (pv 0) (qc9 T.c_MOST_VOTERS (by rfl)) (qao _)) (qad qaY) qak)
  (qab (qat (i:=2) sc.nd rfl (Or.inl rfl) (pec C_67 hr (qaa (pv 0) (qaa (pv 1) qac))))
  (qab (qaA (qai (qav (K:=K) rfl hr.units0) (qaw (qaO (K:=K) rfl) (pv 2) qae (λ_ _=>rfl)) qaq (qao _)) (qad (qah (pec C_61 hr (qaa (qaw (qaO (K:=K) rfl) (pv 2) qae (λ_ _=>rfl)) (qaa (qaw (qaO (K:=K) rfl) (pv 2) qae (λ_ _=>rfl)) (qaa (qaw (qaO (K:=K) rfl) (pv 2) qae (λ_ _=>rfl)) (qaa (qaw (qaO (K:=K) rfl) (pv 2) qae (λ_ _=>rfl)) qac))))))) qak)
  (qad (qah (pec C_54 hr (qaa (pv 0) (qaa (pv 1) (qaa (qaw (qaO (K:=K) rfl) (pv 2) qae (λ_ _=>rfl)) qac))))))))),?_⟩
 refine rdg (σ':=[some x0,some x1,none]) rfl ?_;obtain⟨m,p,fs,rfl,hm,rfl,f1,lf,hr,hb,q⟩:=h;walk_at "rd";rw[if_neg (by omega)];refine⟨_,_,rfl,m,p,fs,rfl,by omega,rfl,f1,λt H1 s1 R1=>?_⟩
 (try walk_at "rd")
 obtain⟨ht,⟨x,y,s,u,hxy,hy,hno,e1,e2,at1⟩ | ⟨hno,p1,ps,at1,L1⟩⟩:=R1
 .refine qbt (SqT.of at1) rfl (eqS true (by decide) ⟨_,rfl,qeK (qbt (SqT.of at1) rfl (qbt (SqT.of at1) rfl (qbt (SqT.of at1) rfl (qbt (SqT.of at1) rfl ?_))))⟩)
  refine⟨_,_,_,_,rfl,x,y,s,u,rfl,rfl,rfl,rfl,by omega,by omega,λtt p1 p2 ys ns H2 s2 h0 h1 h2 n12 b0 b1 b2 q1 q2 r1 r2=>?_⟩;exact q tt (.t ys ns) H2 (s1.trans s2) ⟨x,y,s,u,hxy,hy,hno,e1,e2,q1,q2,r1,r2⟩ ⟨p1,p2,b0,b1,b2⟩
 .refine qbt (SqT.of at1) rfl (eqS false (by decide) ⟨_,rfl,qcA (qbt (SqT.of at1) rfl ?_)⟩)
  refine⟨_,_,_,rfl,m,p,p1,fs,ps,H,rfl,hm,rfl,s1 _ _ f1,lf,hr,hb,hno,rfl,L1,λtt pw N b H2 s2 h0 h1 b0 b1 lN hf hW=>?_⟩;exact q tt (.w N b) H2 (s1.trans s2) ⟨hno,hW,hf⟩ ⟨pw,b0,b1⟩
abbrev qb3:Stmt:=top 40
theorem qc7:qal ["words", "told", "yes", "no"] ["words", "told"] (qaf qb3):=fsc
theorem qcI (a b c:Str):a++b++c=a++(b++c):=congrArg Str.mk yeo
def vtT (ws:List Str):Vt->Str
 | .w N b=>Str.ofString "weights " ++ qrt (N++[b])
 | .t ys ns=>_root_.PySem.Txt.join " " ((("trade" : Str)::ys.map (Tx.sT ws)++[("/" : Str)])++ns.map (Tx.sT ws))
theorem qox {ns:List Nat}(hl:ns.length<=9)(hn:∀n∈ns,n<=256):(qrt ns).length<=100:=by
 unfold qrt;rw[<-Tx.len_sg,Tx.lit_space,Tx.txt_join];refine ybn (Tx.jn_len (M:=3) λx hx=>?_) (show _*4<=_ by rw[ycd,ycd];omega);obtain⟨w,hw',rfl⟩:=ybu.mp hx;obtain⟨n,hn',rfl⟩:=ybu.mp hw';rw[Tx.len_sg];exact qgG n (hn n hn')
theorem qcN {d z:Str}(hz:z=d ++ " "){l:List Str}(hl:l≠[]):_root_.PySem.Txt.join " " (d::l)=z++_root_.PySem.Txt.join " " l:=by
 rw[hz,Tx.lit_space,show d::l=[d]++l from rfl,<-Tx.join_app (by simp) hl,Tx.join_one]
theorem qhj {N:List Nat}{b:Nat}(hn:∀n∈N,n<=256)(hb:b<=256):∀n∈N++[b],n<=256:=λn h=>by
 rcases yav.mp h with h | h
 .exact hn n h
 .rw[yei.mp h]
  exact hb
def qsr (K:W.Frag):Sp:=sp2 λx y H Q=>∃(p t:Addr) (ws:List Str) (v:Vt),x = .ref p/\H p=some (.lst (sV ws))/\Tx.Wds ws/\y = .ref t/\VtH H t v/\VtB ws.length v/\∀H',qar H H'->Q (.str (vtT ws v)) H'
theorem qfI {f:Addr}{fd:FuncData}(F:Fun K "show_weights" "show_weights" qb3 f fd)(T:Txt mg){f_44:Addr}{fd_44:FuncData}(C_44:Cal P w K mg base "show_set" 2 ["words", "one"] (qfi K) f_44 fd_44){f_12:Addr}{fd_12:FuncData}(C_12:Cal P w K mg base "show_numbers" 1 ["numbers"] (qfe K) f_12 fd_12):qaM P w K mg base CX0 3 f fd ["words", "told"] (qsr K):=by
 have sc:=qc7;refine F.ok qc7 (λvs H Q E h=>by obtain⟨_,_,rfl,_⟩:=h;rfl) (λcdv A outer s H vs Q E hr h=>?_);obtain⟨x0,x1,rfl,h⟩:=h
 refine⟨_,(qab (qaA (qai (qav (K:=K) rfl hr.units0) (qaw (qaO (K:=K) rfl) (pv 1) qae (λ_ _=>rfl)) qaq (qao _)) (qad (qah (qan qbG qaq (pec C_12 hr (qaa (qan (qb4 (K:=K) rfl) (qaw (qaO (K:=K) rfl) (pv 1) qae (λ_ _=>rfl)) (qaJ (qaa (qaw (qaO (K:=K) rfl) (pv 1) qae (λ_ _=>rfl)) qac))) qac))))) qak)
   (qab (qbs (i:=2) sc.nd rfl rfl (by rfl) (N:=["one", "words"]) (nt:=1) (caps:=[0]) qax rfl (qaE (qaw (qaO (K:=K) rfl) (pv 1) qae (λ_ _=>rfl))) (λ_ _ _ _ _=>(qam (i:=0) (show List.Nodup (α:=Str) ["one", "words"] from by decide +kernel) rfl (Or.inl rfl))) qaz (λ_ _ _ _ _=>qaD) (λ_ _ _ _ _=>(pec C_44 hr (qaa (pv 1) (qaa (pv 0) qac)))))
   (qab (qbs (i:=3) sc.nd rfl rfl (by rfl) (N:=["one", "words"]) (nt:=1) (caps:=[0]) qax rfl (qaE (qaw (qaO (K:=K) rfl) (pv 1) qae (λ_ _=>rfl))) (λ_ _ _ _ _=>(qam (i:=0) (show List.Nodup (α:=Str) ["one", "words"] from by decide +kernel) rfl (Or.inl rfl))) qaz (λ_ _ _ _ _=>qaD) (λ_ _ _ _ _=>(pec C_44 hr (qaa (pv 1) (qaa (pv 0) qac)))))
   (qad (qah (qbj yhe yhf yhg (qbC (K:=K) rfl) qaq (qaa (qan (qb4 (K:=K) rfl) (qan (qb4 (K:=K) rfl) (qan (qb4 (K:=K) rfl) (qaJ (qaa qaq qac)) (pv 2)) (qaJ (qaa qaq qac))) (pv 3)) qac))))))),?_⟩
 refine rdg (σ':=[some x0,some x1,none,none]) rfl ?_;obtain⟨p,t,ws,v,rfl,f1,hw,rfl,hV,hB,q⟩:=h;walk_at "rd";have zz:100000<=sizeLine:=by decide
 have lw8:(Str.ofString "weights ").length=8:=by decide +kernel
 have h8:=hw.few;cases v with
 | w N b =>
   obtain⟨pw,f2,f3⟩:=hV;obtain⟨hl,hn,hb⟩:=hB;have nl:=qox (ns:=N++[b]) (by simp;omega) (qhj hn hb);refine qbt (SqT.of f2) (qaR (j:=0) rfl) ⟨_,.inl ⟨rfl,rfl⟩,⟨true,congrArg V.bl (decide_eq_true rfl),qeK ?_⟩⟩;refine qbt (SqT.of f2) (qaR (j:=1) rfl) (qbt (SqT.of f2) (qaR (j:=2) rfl) ⟨qau (by simp),λp1 hp1=>?_⟩);generalize g1:upd H p1 _=G1;have a1:G1 p1=some (.lst (nV [b])):=qap g1;have s1:=qaj g1 hp1;refine⟨pw,p1,_,_,rfl,rfl,SqL.of (s1 _ _ f3),SqL.of a1,qau (by rw[qaP,qaP,yfn];omega),λp2 hp2=>?_⟩;rw[qhX];generalize g2:upd G1 p2 _=G2;have a2:=qap g2;have s2:=s1.trans (qaj g2 hp2);exact⟨_,rfl,p2,N++[b],rfl,a2,by simp;omega,qhj hn hb,λH3 s3=>⟨_,rfl,by omega,q _ (s2.trans s3)⟩⟩
 | t ys ns =>
   obtain⟨p1,p2,f2,f3,f4⟩:=hV;obtain⟨ly,ln,hy,hn⟩:=hB;have n1:¬("trade" : Str)=Str.ofString "weights" := by decide +kernel
   have e1:decide (V.str ("trade" : Str)=V.str (Str.ofString "weights"))=false:=decide_eq_false λe=>n1 (V.str.inj e);refine qbt (SqT.of f2) (qaR (j:=0) rfl) ⟨_,.inl ⟨rfl,rfl⟩,⟨false,congrArg V.bl e1,qcA ?_⟩⟩;refine qbt (SqT.of f2) (qaR (j:=1) rfl) ⟨p1,rfl,⟨_,SqL.of f3⟩,qbv (fs:=ys) (λ_=>true) (λb => .str (Tx.sT ws b)) (SqL.of f3) (by omega) (λb hb' H2 s2 R R' r1 r2=>?_) λH2 p3 s2 hp3=>?_⟩
   . (try walk_at "rd")
     exact⟨_,_,rfl,p,ws,b,rfl,s2 _ _ f1,hw,rfl,hy b hb',λH3 s3=>r1 rfl _ s3⟩
   rw[ygd.mpr λ_ _=>rfl,qdj];generalize g3:upd H2 p3 _=G3;have a3:=qap g3;have s3:=s2.trans (qaj g3 hp3)
   (try walk_at "rd")
   refine qbt (SqT.of (s3 _ _ f2)) (qaR (j:=2) rfl) ⟨p2,rfl,⟨_,SqL.of (s3 _ _ f4)⟩,qbv (fs:=ns) (λ_=>true) (λb => .str (Tx.sT ws b)) (SqL.of (s3 _ _ f4)) (by omega) (λb hb' H4 s4 R R' r1 r2=>?_) λH5 p5 s5 hp5=>?_⟩
   . (try walk_at "rd")
     exact⟨_,_,rfl,p,ws,b,rfl,s4 _ _ (s3 _ _ f1),hw,rfl,hn b hb',λH3 s3=>r1 rfl _ s3⟩
   rw[ygd.mpr λ_ _=>rfl,qdj];generalize g5:upd H5 p5 _=G5;have a5:=qap g5;have t5:=s5.trans (qaj g5 hp5);have a3:=t5 _ _ a3;have s5:=s3.trans t5
   (try walk_at "rd")
   refine⟨rfl,qau (by simp),λp6 hp6=>?_⟩;generalize g6:upd G5 p6 _=G6;have a6:=qap g6;have t6:=qaj g6 hp6;refine⟨p6,p3,_,_,rfl,rfl,SqL.of a6,SqL.of (t6 _ _ a3),qau (by rw[qaI,ycd];simp;omega),λp7 hp7=>?_⟩;generalize g7:upd G6 p7 _=G7;have a7:G7 p7=some (.lst (sV (("trade" : Str)::ys.map (Tx.sT ws)))):=qap g7;have t7:=t6.trans (qaj g7 hp7);refine⟨qau (by simp),λp8 hp8=>?_⟩;generalize g8:upd G7 p8 _=G8;have a8:G8 p8=some (.lst (sV [("/" : Str)])):=qap g8;have t8:=qaj g8 hp8;refine⟨p7,p8,_,_,rfl,rfl,SqL.of (t8 _ _ a7),SqL.of a8,qau (by rw[qaI,qaI,ycb,ycd];simp;omega),λp9 hp9=>?_⟩;generalize g9:upd G8 p9 _=G9
   have a9:G9 p9=some (.lst (sV (("trade" : Str)::ys.map (Tx.sT ws)++[("/" : Str)]))):=by
     unfold sV;rw[ycv];exact qap g9
   have t9:=(t7.trans t8).trans (qaj g9 hp9);refine⟨p9,p5,_,_,rfl,rfl,SqL.of a9,SqL.of (t9 _ _ a5),qau (by rw[qaI,qaI];simp;omega),λp10 hp10=>?_⟩;generalize g10:upd G9 p10 _=G10
   have a10:G10 p10=some (.lst (sV ((("trade" : Str)::ys.map (Tx.sT ws)++[("/" : Str)])++ns.map (Tx.sT ws)))):=by
     rw[show ∀A B:List Str,sV (A++B)=sV A++sV B from λA B=>ycv];exact qap g10
   refine⟨_,p10,_,rfl,rfl,SqL.of a10,qaU (M:=72) (N:=20) (λy hy'=>?_) (by simp;omega) (by rw[Tx.lit_space];decide) (by decide),q _ ((s5.trans t9).trans (qaj g10 hp10))⟩;rcases yav.mp hy' with h | h
   . rcases yav.mp h with h | h
     . rcases ybf.mp h with rfl | h
       . decide +kernel
       . obtain⟨b,hb,rfl⟩:=ybu.mp h
         exact Tx.sT_len hw (hy b hb)
     . rw[yei.mp h]
       decide +kernel
   . obtain⟨b,hb,rfl⟩:=ybu.mp h
     exact Tx.sT_len hw (hn b hb)
abbrev qbp:Stmt:=top 83
theorem qbZ:qal ["many", "family", "x", "y"] ["many", "family", "x", "y"] (qaf qbp):=fsc
def qrO (K:W.Frag):Sp:=sp4 λu v x y H Q=>∃(m:Nat) (p:Addr) (fs:List Nat) (i j:Nat),u = .int m/\m<=8/\v = .ref p/\H p=some (.lst (nV fs))/\x = .int i/\i<m/\y = .int j/\j<m/\i≠j/\∀t H',H t=none->qar H H'->H' t=some (.tup (qoM m (Fam.sayP fs) i j))->Q (.ref t) H'
theorem qdH {f:Addr}{fd:FuncData}(F:Fun K "compared_unlike" "compared_unlike" qbp f fd)(T:Txt mg){f_47:Addr}{fd_47:FuncData}(C_47:Cal P w K mg base "compared" 4 ["many", "family", "x", "y"] (qgp K) f_47 fd_47):qaM P w K mg base CX0 5 f fd ["many", "family", "x", "y"] (qrO K):=by
 have sc:=qbZ;refine F.ok qbZ (λvs H Q E h=>by obtain⟨_,_,_,_,rfl,_⟩:=h;rfl) (λcdv A outer s H vs Q E hr h=>?_);obtain⟨x0,x1,x2,x3,rfl,h⟩:=h
 refine⟨_,(qab (qaA (qai (qav (K:=K) rfl hr.units0) (pv 2) (pv 3) (qao _)) (qad qaY) qak)
  (qad (qah (pec C_47 hr (qaa (pv 0) (qaa (pv 1) (qaa (pv 2) (qaa (pv 3) qac)))))))),?_⟩
 refine rdg (σ':=[some x0,some x1,some x2,some x3]) rfl ?_;obtain⟨m,p,fs,i,j,rfl,hm,rfl,f1,rfl,hi,rfl,hj,hij,q⟩:=h;walk_at "rd";rw[if_neg (by omega)];exact⟨_,_,_,_,rfl,m,p,fs,i,j,rfl,hm,rfl,f1,rfl,hi,rfl,hj,q⟩
abbrev qew:Stmt:=top 80
theorem qe8:qal ["word"] ["word"] (qaf qew):=fsc
def qhV:Sp:=sp1 λx H Q=>∃w:Str,x = .str w/\Tx.Wd w/\∀H',qar H H'->Q (.str w) H'
theorem qjd {f:Addr}{fd:FuncData}(F:Fun K "new_name" "new_name" qew f fd)(T:Txt mg){f_52:Addr}{fd_52:FuncData}(C_52:Cal P w K mg base "is_word" 1 ["text"] qhg f_52 fd_52):qaM P w K mg base CX0 2 f fd ["word"] qhV:=by
 have sc:=qe8;refine F.ok qe8 (λvs H Q E h=>by obtain⟨_,rfl,_⟩:=h;rfl) (λcdv A outer s H vs Q E hr h=>?_);obtain⟨x0,rfl,h⟩:=h
 refine⟨_,(qab (qaA (qbD (qa9 (pec C_52 hr (qaa (pv 0) qac)))) (qad qaY) qak)
  (qad (qah (pv 0)))),?_⟩
 refine rdg (σ':=[some x0]) rfl ?_;obtain⟨w,rfl,hw,q⟩:=h;walk_at "rd";exact⟨_,rfl,w,rfl,hw,λH' s'=>⟨true,rfl,by rw[if_neg (by decide)];exact q _ s'⟩⟩
abbrev qeo:Stmt:=top 79
theorem qfo:qal ["row", "deed", "parts"] ["row"] (qaf qeo):=fsc
def qhY (K:W.Frag):Sp:=sp1 λx H Q=>∃(z d:Str) (r ks:List Str),x = .str z/\Prt z d r ks/\∀p H',H p=none->qar H H'->H' p=some (.lst (sV (d::r)))->Q (.ref p) H'
theorem qiH {f:Addr}{fd:FuncData}(F:Fun K "parts_of" "parts_of" qeo f fd)(T:Txt mg){cD aW:Addr}(Z:Xt P w K mg cD aW)  : qaM P w K mg base CX0 1 f fd ["row"] (qhY K):=by
 have sc:=qfo;refine F.ok qfo (λvs H Q E h=>by obtain⟨_,rfl,_⟩:=h;rfl) (λcdv A outer s H vs Q E hr h=>?_);obtain⟨x0,rfl,h⟩:=h
 refine⟨_,(qab (qaA (qbD (qa9 (qas qbL (by rfl) T.n_isinstance PyProof.Rows.boot_isinstance (qaa (pv 0) (qaa (qfJ (v := .ty "str") (by rfl) T.n_str PyProof.Rows.boot_str rfl) qac))))) (qad qaY) qak)
  (qab (qat (i:=1) sc.nd rfl (Or.inl rfl) (qaw (qaO (K:=K) rfl) (qbj yhe yhh yhi qbE (pv 0) (qaa qaq qac)) qae (λ_ _=>rfl)))
  (qab (qaA (qkQ (qpX (P:=P) (w:=w) (K:=K) rfl rfl rfl (pv 1) (qey (v := .ref aW) (by rfl) Z.gW rfl)) (by with_unfolding_all rfl)) (qad qaY) qak)
  (qab (qat (i:=2) sc.nd rfl (Or.inl rfl) (qjW (qai (qav (K:=K) rfl hr.units0) (pv 1) qaq (qao _)) (qbj yhe yhh yhi qm1 (pv 0) (qaa qaq (qaa qae qac))) (qbj yhe yhh yhi qbE (pv 0) (qaa qaq qac))))
  (qab (qaA (qai (qbW (K:=K) rfl hr.units0) (qas (qaB (K:=K) rfl) (by rfl) T.n_len PySem.boot_len (qaa (pv 2) qac)) (qan qbf (qas (qaB (K:=K) rfl) (by rfl) T.n_len PySem.boot_len (qaa (qiG (P:=P) (w:=w) (K:=K) rfl rfl rfl (qey (v := .ref aW) (by rfl) Z.gW rfl) (pv 1) (λ_ _=>rfl)) qac)) qae) (qao _)) (qad qaY) qak)
  (qad (qah (pv 2)))))))),?_⟩
 refine rdg (σ':=[some x0,none,none]) rfl ?_;obtain⟨z,d,r,ks,rfl,hP,q⟩:=h;obtain⟨kvs,kd1,kd2⟩:=Z.wn.kv;obtain⟨t,vt,ht⟩:=kd2 d ks hP.kd;have hz:=hP.sz;have hln:=hP.ln;walk_at "rd";refine⟨_, "str",⟨rfl,rfl⟩, "str",rfl,by decide,?_⟩;rw[if_neg (by decide)];refine⟨rfl,z,_,rfl,rfl,by rw[Tx.lit_space];rfl,by omega,λp1 hp1=>?_⟩;generalize g1:upd H p1 _=G1;have a1:=qap g1;have s1:=qaj g1 hp1;refine qaF (SqL.of a1) (qbh hP.hd) ⟨kvs,Sum.inr d,rfl,kd1,false,by rw[vt];rfl,?_⟩;rw[if_neg (by decide)]
 (try walk_at "rd")
 have hps:=hP.ps;by_cases hl:d=("let" : Str)
 .rw[if_pos hl] at hps
  rw[if_pos hl];refine⟨rfl,z,_,2,rfl,rfl,by rw[Tx.lit_space];rfl,by omega,by decide,λp2 hp2=>?_⟩;rw[show _root_.PySem.Txt.splitMax z " " ((2:Nat):Int)=d::r from hps];refine⟨p2,rfl,_,.inl (SqL.of qag),kvs,Sum.inr d,rfl,kd1,_,vt,t,rfl,_,.inr (ht _),?_⟩;rw[qaI,qaI,ycb];exact⟨false,by rw[decide_eq_true (by omega)];rfl,qcA (q p2 _ (qaC s1 hp2) (s1.trans (qar.new hp2)) qag)⟩
 .rw[if_neg hl] at hps
  rw[if_neg hl];refine⟨rfl,z,_,rfl,rfl,by rw[Tx.lit_space];rfl,by omega,λp2 hp2=>?_⟩;rw[hps];refine⟨p2,rfl,_,.inl (SqL.of qag),kvs,Sum.inr d,rfl,kd1,_,vt,t,rfl,_,.inr (ht _),?_⟩;rw[qaI,qaI,ycb];exact⟨false,by rw[decide_eq_true (by omega)];rfl,qcA (q p2 _ (qaC s1 hp2) (s1.trans (qar.new hp2)) qag)⟩
abbrev qbU:Stmt:=qfl (top 78) 0
theorem qcD:qal ["self", "text"] ["self", "text"] (qaf qbU):=fsc
def qpm (cD:Addr):Sp:=sp2 λx y H Q=>∃(d dx:Addr) (ws:List Str),x = .ref d/\H d=some (.ins cD dx [])/\y = .str (_root_.PySem.Txt.join " " ws)/\Tx.Wds ws/\∀pk H',H pk=none->qda cD H' d pk ws []->SmB d H H'->Q .non H'
theorem qeV {f:Addr}{fd:FuncData}(F:Fun K "__init__" "Desk.__init__" qbU f fd)(T:Txt mg){cD aW:Addr}(Z:Xt P w K mg cD aW){f_25:Addr}{fd_25:FuncData}(C_25:Cal P w K mg base "read_names" 2 ["text"] (qfp K) f_25 fd_25):qaM P w K mg base CX0 3 f fd ["self", "text"] (qpm cD):=by
 have sc:=qcD;refine F.ok qcD (λvs H Q E h=>by obtain⟨_,_,rfl,_⟩:=h;rfl) (λcdv A outer s H vs Q E hr h=>?_);obtain⟨x0,x1,rfl,h⟩:=h
 refine⟨_,(qab (qoT (pv 0) (pec C_25 hr (qaa (pv 1) qac)) rfl)
  (qad (qoT (pv 0) qn4 rfl))),?_⟩
 refine rdg (σ':=[some x0,some x1]) rfl ?_;obtain⟨d,dx,ws,rfl,hd,rfl,hw,q⟩:=h;walk_at "rd";refine⟨_,rfl,ws,rfl,hw,λpw H1 hpw s1 a1=>?_⟩
 (try walk_at "rd")
 have npd:pw≠d:=λe=>by rw[e,hd] at hpw;cases hpw
 refine⟨cD,dx,[],s1 _ _ hd,Z.cl,Z.nw,by decide,λpk hpk=>?_⟩;have nkd:pk≠d:=λe=>by rw[e,qag] at hpk;cases hpk
 rw[qay nkd] at hpk;have nkw:pk≠pw:=λe=>by rw[e,a1] at hpk;cases hpk
 refine⟨cD,dx,_,by rw[qay (Ne.symm nkd),qag],Z.cl,Z.nk,by show 1<1000;decide,?_⟩;rw[qn0];refine q pk _ (qaC s1 hpk) ⟨⟨dx,pw,qag,by rw[qay npd,qay (Ne.symm nkw),qay npd];exact a1⟩,⟨[],by rw[qay nkd,qag],rfl,λn=>rfl⟩,hw,λn fs h=>(by cases h),by decide⟩ λb o e hb=>?_;rw[qay hb,qay (qaV (s1 _ _ e) hpk),qay hb];exact s1 _ _ e
abbrev qby:Stmt:=qfl (top 78) 3
theorem qci:qal ["self", "word"] ["self", "word"] (qaf qby):=fsc
def qk4 (cD:Addr):Sp:=sp2 λx y H Q=>∃(d pk:Addr) (ws:List Str) (m:List (Str×List Nat)) (n:Str) (fs:List Nat),x = .ref d/\qda cD H d pk ws m/\y = .str n/\m.lookup n=some fs/\∀p,H p=some (.lst (nV fs))->Q (.ref p) H
theorem qej {f:Addr}{fd:FuncData}(F:Fun K "family_by" "Desk.family_by" qby f fd)(T:Txt mg){cD aW:Addr}(Z:Xt P w K mg cD aW)  : qaM P w K mg base CX0 1 f fd ["self", "word"] (qk4 cD):=by
 have sc:=qci;refine F.ok qci (λvs H Q E h=>by obtain⟨_,_,rfl,_⟩:=h;rfl) (λcdv A outer s H vs Q E hr h=>?_);obtain⟨x0,x1,rfl,h⟩:=h
 refine⟨_,(qab (qaA (qkQ (qh9 (qoC hr) (pv 1) (qdh (pv 0) rfl)) (by with_unfolding_all rfl)) (qad qaY) qak)
  (qad (qah (qqr (qoC hr) (qdh (pv 0) rfl) (pv 1) (λ_ _=>rfl))))),?_⟩
 refine rdg (σ':=[some x0,some x1]) rfl ?_;obtain⟨d,pk,ws,m,n,fs,rfl,D,rfl,hn,q⟩:=h;obtain⟨dx,pw,o1,o2⟩:=D.ob;obtain⟨kvs,k1,k2⟩:=D.dc;obtain⟨p,v1,v2⟩:=k2.get hn;walk_at "rd";refine⟨cD,dx,_,o1,Z.cl,Z.nk,_,qhD _ _,pk,rfl,_,qmm.k (k:=Sum.inr n) k1,false,by rw[v1];rfl,qcA ?_⟩;exact⟨cD,dx,_,o1,Z.cl,Z.nk,_,qhD _ _,pk,rfl,_,(by have:=qmm.k (k:=Sum.inr n) k1;rw[v1] at this;exact this),q p v2⟩
abbrev qa4:Stmt:=qfl (top 78) 4
theorem qbx:qal ["self", "name"] ["self", "name"] (qaf qa4):=fsc
def qoY (cD:Addr):Sp:=sp2 λx y H Q=>∃(d pk:Addr) (ws:List Str) (m:List (Str×List Nat)) (n:Str),x = .ref d/\qda cD H d pk ws m/\y = .str n/\(m.lookup n≠none\/m.length<20)/\Q .non H
theorem qcU {f:Addr}{fd:FuncData}(F:Fun K "look_for_room" "Desk.look_for_room" qa4 f fd)(T:Txt mg){cD aW:Addr}(Z:Xt P w K mg cD aW)  : qaM P w K mg base CX0 1 f fd ["self", "name"] (qoY cD):=by
 have sc:=qbx;refine F.ok qbx (λvs H Q E h=>by obtain⟨_,_,rfl,_⟩:=h;rfl) (λcdv A outer s H vs Q E hr h=>?_);obtain⟨x0,x1,rfl,h⟩:=h;refine⟨_,(qad (qaA (PW.pt (qcB (qkQ (qh9 (qoC hr) (pv 1) (qdh (pv 0) rfl)) (by with_unfolding_all rfl)) (qbO (qai qnR (qas qk0 (by rfl) T.n_len PySem.boot_len (qaa (qdh (pv 0) rfl) qac)) (qc9 T.c_MOST_KEPT (by rfl)) (qao _))))) (qad qaY) qak)),?_⟩;refine rdg (σ':=[some x0,some x1]) rfl ?_;obtain⟨d,pk,ws,m,n,rfl,D,rfl,hn,q⟩:=h;obtain⟨dx,pw,o1,o2⟩:=D.ob;obtain⟨kvs,k1,k2⟩:=D.dc;walk_at "rd";refine⟨cD,dx,_,o1,Z.cl,Z.nk,_,qhD _ _,pk,rfl,_,qmm.k (k:=Sum.inr n) k1,?_⟩;cases e:m.lookup n with
 | some fs =>
  obtain⟨p,v1,_⟩:=k2.get e;exact⟨false,by rw[v1];rfl,qcA q⟩
 | none =>
  have v1:=k2.no e;refine⟨true,by rw[v1];rfl,qeK ⟨cD,dx,_,o1,Z.cl,Z.nk,_,qhD _ _,pk,rfl,_,k1,?_⟩⟩
  have:m.length<20:=by
   rcases hn with h | h
   .exact absurd e h
   .exact h
  rw[if_neg (by rw[k2.1];omega)];exact q
abbrev qbK:Stmt:=qfl (top 78) 2
theorem qcC:qal ["self", "kind", "word"] ["self", "kind", "word"] (qaf qbK):=fsc
def qm0 (cD:Addr):Sp:=sp3 λx y z H Q=>∃(d pk:Addr) (ws:List Str) (m:List (Str×List Nat)) (k w:Str) (th:Th),x = .ref d/\qda cD H d pk ws m/\y = .str k/\z = .str w/\Thg ws m k w th/\∀v H',qar H H'->ThV H' th v->Q v H'
theorem qeR {f:Addr}{fd:FuncData}(F:Fun K "thing_of" "Desk.thing_of" qbK f fd)(T:Txt mg){cD aW:Addr}(Z:Xt P w K mg cD aW){f_17:Addr}{fd_17:FuncData}(C_17:Cal P w K mg base "read_family" 4 ["words", "text"] (qhp K) f_17 fd_17){f_48:Addr}{fd_48:FuncData}(C_48:Cal P w K mg base "new_name" 2 ["word"] qhV f_48 fd_48){f_05:Addr}{fd_05:FuncData}(C_05:qeQ P w K mg base cD "family_by" 1 ["self", "word"] (qk4 cD) f_05 fd_05){f_34:Addr}{fd_34:FuncData}(C_34:Cal P w K mg base "read_name" 1 ["words", "word"] (qd8 K) f_34 fd_34){f_45:Addr}{fd_45:FuncData}(C_45:Cal P w K mg base "read_set" 2 ["words", "text"] (qfE K) f_45 fd_45):qaM P w K mg base CX0 5 f fd ["self", "kind", "word"] (qm0 cD):=by
 have sc:=qcC;refine F.ok qcC (λvs H Q E h=>by obtain⟨_,_,_,rfl,_⟩:=h;rfl) (λcdv A outer s H vs Q E hr h=>?_);obtain⟨x0,x1,x2,rfl,h⟩:=h
 refine⟨_,(qab (qaA (qai (qav (K:=K) rfl hr.units0) (pv 1) qaq (qao _)) (qad (qah (pec C_48 hr (qaa (pv 2) qac)))) qak)
  (qab (qaA (qai (qav (K:=K) rfl hr.units0) (pv 1) qaq (qao _)) (qad (qah (qbF (pv 0) Z.cl C_05 hr (by decide) (qaa (pv 2) qac)))) qak)
  (qab (qaA (qai (qav (K:=K) rfl hr.units0) (pv 1) qaq (qao _)) (qad (qah (pec C_34 hr (qaa (qdh (pv 0) rfl) (qaa (pv 2) qac))))) qak)
  (qab (qaA (qai (qav (K:=K) rfl hr.units0) (pv 1) qaq (qao _)) (qad (qah (pec C_45 hr (qaa (qdh (pv 0) rfl) (qaa (pv 2) qac))))) qak)
  (qad (qah (pec C_17 hr (qaa (qdh (pv 0) rfl) (qaa (pv 2) qac))))))))),?_⟩
 refine rdg (σ':=[some x0,some x1,some x2]) rfl ?_;obtain⟨d,pk,ws,m,k,w,th,rfl,D,rfl,rfl,hT,q⟩:=h;obtain⟨dx,pw,o1,o2⟩:=D.ob;walk_at "rd";have hw:=D.wd;have h8:=hw.few;have n1:¬(Str.ofString "family" = Str.ofString "new"):=by decide +kernel
 have n2:¬(Str.ofString "name" = Str.ofString "new"):=by decide +kernel
 have n3:¬(Str.ofString "name" = Str.ofString "family"):=by decide +kernel
 have n4:¬(Str.ofString "set" = Str.ofString "new"):=by decide +kernel
 have n5:¬(Str.ofString "set" = Str.ofString "family"):=by decide +kernel
 have n6:¬(Str.ofString "set" = Str.ofString "name"):=by decide +kernel
 have n7:¬(Str.ofString "text" = Str.ofString "new"):=by decide +kernel
 have n8:¬(Str.ofString "text" = Str.ofString "family"):=by decide +kernel
 have n9:¬(Str.ofString "text" = Str.ofString "name"):=by decide +kernel
 have n10:¬(Str.ofString "text" = Str.ofString "set"):=by decide +kernel
 cases hT with
 | new h =>
  rw[if_pos rfl];exact⟨_,rfl,w,rfl,h,λH' s'=>q _ _ s' rfl⟩
 | @fam _ fs h =>
  rw[if_neg n1,if_pos rfl];exact⟨dx,_,o1,qcs _ _ (by decide +kernel) (by decide +kernel),_,_,rfl,d,pk,ws,m,w,fs,rfl,D,rfl,h,λp hp=>q _ _ (qar.refl _) ⟨p,rfl,hp⟩⟩
 | name h =>
  rw[if_neg n2,if_neg n3,if_pos rfl];exact⟨cD,dx,_,o1,Z.cl,Z.nw,_,qim _ _,_,_,rfl,pw,ws,w,rfl,o2,h8,rfl,h,q _ _ (qar.refl _) rfl⟩
 | @set a h =>
  rw[if_neg n4,if_neg n5,if_neg n6,if_pos rfl];exact⟨cD,dx,_,o1,Z.cl,Z.nw,_,qim _ _,_,_,rfl,pw,ws,a,rfl,o2,hw,rfl,h,λH' s'=>q _ _ s' rfl⟩
 | @text fs h =>
  rw[if_neg n7,if_neg n8,if_neg n9,if_neg n10];exact⟨cD,dx,_,o1,Z.cl,Z.nw,_,qim _ _,_,_,rfl,pw,ws,fs,rfl,o2,hw,rfl,h.lt,h.rise,h.few,λp' H' hp' s' a'=>q _ _ s' ⟨p',rfl,a'⟩⟩
abbrev qmG:Stmt:=top 81
theorem qkM:qal ["many", "deed", "things"] ["many", "deed", "things"] (qaf qmG):=fsc
inductive MkR (n:Nat):Str->List Th->List Nat->Prop
 | let {fs:List Nat}:MkR n "let" [.fm fs] fs
def qo2 (K:W.Frag):Sp:=sp3 λx y z H Q=>∃(n:Nat) (deed:Str) (p:Addr) (vs:List V) (ths:List Th) (gs:List Nat),x = .int (n:Nat)/\n<=8/\y = .str deed/\z = .ref p/\H p=some (.lst vs)/\qht H ths vs/\MkR n deed ths gs/\∀p' H',qar H H'->H' p'=some (.lst (nV gs))->Q (.ref p') H'
theorem qrf {f:Addr}{fd:FuncData}(F:Fun K "made" "made" qmG f fd)(T:Txt mg){f_26:Addr}{fd_26:FuncData}(C_26:Cal P w K mg base "always_out" 1 ["family", "k"] qhm f_26 fd_26){f_70:Addr}{fd_70:FuncData}(C_70:Cal P w K mg base "hits" 3 ["many", "family"] (qmB K) f_70 fd_70){f_65:Addr}{fd_65:FuncData}(C_65:Cal P w K mg base "rests" 2 ["many", "family"] (qi0 K) f_65 fd_65){f_58:Addr}{fd_58:FuncData}(C_58:Cal P w K mg base "either" 1 ["one", "other"] qhm f_58 fd_58){f_71:Addr}{fd_71:FuncData}(C_71:Cal P w K mg base "both" 1 ["one", "other"] qhm f_71 fd_71){f_35:Addr}{fd_35:FuncData}(C_35:Cal P w K mg base "always_in" 1 ["family", "k"] qhm f_35 fd_35):qaM P w K mg base CX0 4 f fd ["many", "deed", "things"] (qo2 K):=by
 have sc:=qkM;refine F.ok qkM (λvs H Q E h=>by obtain⟨_,_,_,rfl,_⟩:=h;rfl) (λcdv A outer s H vs Q E hr h=>?_);obtain⟨x0,x1,x2,rfl,h⟩:=h
 refine⟨_,(qab (qaA (qai (qav (K:=K) rfl hr.units0) (pv 1) qaq (qao _)) (qad (qah (qaw (qaO (K:=K) rfl) (pv 2) qae (λ_ _=>rfl)))) qak)
  (qab (qaA (qai (qav (K:=K) rfl hr.units0) (pv 1) qaq (qao _)) (qad (qah (pec C_70 hr (qaa (pv 0) (qaa (qaw (qaO (K:=K) rfl) (pv 2) qae (λ_ _=>rfl)) qac))))) qak)
  (qab (qaA (qai (qav (K:=K) rfl hr.units0) (pv 1) qaq (qao _)) (qad (qah (pec C_65 hr (qaa (pv 0) (qaa (qaw (qaO (K:=K) rfl) (pv 2) qae (λ_ _=>rfl)) qac))))) qak)
  (qab (qaA (qai (qav (K:=K) rfl hr.units0) (pv 1) qaq (qao _)) (qad (qah (pec C_58 hr (qaa (qaw (qaO (K:=K) rfl) (pv 2) qae (λ_ _=>rfl)) (qaa (qaw (qaO (K:=K) rfl) (pv 2) qae (λ_ _=>rfl)) qac))))) qak)
  (qab (qaA (qai (qav (K:=K) rfl hr.units0) (pv 1) qaq (qao _)) (qad (qah (pec C_71 hr (qaa (qaw (qaO (K:=K) rfl) (pv 2) qae (λ_ _=>rfl)) (qaa (qaw (qaO (K:=K) rfl) (pv 2) qae (λ_ _=>rfl)) qac))))) qak)
  (qab (qaA (qai (qav (K:=K) rfl hr.units0) (pv 1) qaq (qao _)) (qad (qah (pec C_35 hr (qaa (qaw (qaO (K:=K) rfl) (pv 2) qae (λ_ _=>rfl)) (qaa (qaw (qaO (K:=K) rfl) (pv 2) qae (λ_ _=>rfl)) qac))))) qak)
  (qad (qah (pec C_26 hr (qaa (qaw (qaO (K:=K) rfl) (pv 2) qae (λ_ _=>rfl)) (qaa (qaw (qaO (K:=K) rfl) (pv 2) qae (λ_ _=>rfl)) qac))))))))))),?_⟩
 refine rdg (σ':=[some x0,some x1,some x2]) rfl ?_;obtain⟨n,deed,p,vs,ths,gs,rfl,hn,rfl,rfl,f1,hv,hM,q⟩:=h;walk_at "rd";have n_hits_let:¬(Str.ofString "hits" = Str.ofString "let"):=by decide +kernel
 have n_rests_let:¬(Str.ofString "rests" = Str.ofString "let"):=by decide +kernel
 have n_either_let:¬(Str.ofString "either" = Str.ofString "let"):=by decide +kernel
 have n_both_let:¬(Str.ofString "both" = Str.ofString "let"):=by decide +kernel
 have n_in_let:¬(Str.ofString "in" = Str.ofString "let"):=by decide +kernel
 have n_out_let:¬(Str.ofString "out" = Str.ofString "let"):=by decide +kernel
 have n_rests_hits:¬(Str.ofString "rests" = Str.ofString "hits"):=by decide +kernel
 have n_either_hits:¬(Str.ofString "either" = Str.ofString "hits"):=by decide +kernel
 have n_both_hits:¬(Str.ofString "both" = Str.ofString "hits"):=by decide +kernel
 have n_in_hits:¬(Str.ofString "in" = Str.ofString "hits"):=by decide +kernel
 have n_out_hits:¬(Str.ofString "out" = Str.ofString "hits"):=by decide +kernel
 have n_either_rests:¬(Str.ofString "either" = Str.ofString "rests"):=by decide +kernel
 have n_both_rests:¬(Str.ofString "both" = Str.ofString "rests"):=by decide +kernel
 have n_in_rests:¬(Str.ofString "in" = Str.ofString "rests"):=by decide +kernel
 have n_out_rests:¬(Str.ofString "out" = Str.ofString "rests"):=by decide +kernel
 have n_both_either:¬(Str.ofString "both" = Str.ofString "either"):=by decide +kernel
 have n_in_either:¬(Str.ofString "in" = Str.ofString "either"):=by decide +kernel
 have n_out_either:¬(Str.ofString "out" = Str.ofString "either"):=by decide +kernel
 have n_in_both:¬(Str.ofString "in" = Str.ofString "both"):=by decide +kernel
 have n_out_both:¬(Str.ofString "out" = Str.ofString "both"):=by decide +kernel
 have n_out_in:¬(Str.ofString "out" = Str.ofString "in"):=by decide +kernel
 have le:∀{b:Nat},b<2^n->b<2^8:=λh=>yae h (yaf (by decide) hn);cases hM with
 | «let» =>
  obtain⟨v0,us,rfl,⟨p0,rfl,b0⟩,hu⟩:=hv.cons;obtain rfl:=hu.empty;rw[if_pos rfl];exact qaF (SqL.of f1) rfl (q _ _ (qar.refl _) b0)
abbrev qel:Stmt:=top 82
theorem qfz:qal ["words", "deed", "things", "many", "family"] ["words", "deed", "things"] (qaf qel):=fsc
inductive Ask (ws:List Str):Str->List Th->(Str->Prop)->Prop
 | says {fs:List Nat}{a:Nat}:Fml ws.length fs->a<2^ws.length->Ask ws "says" [.fm fs,.nu a] (λt=>t=if Fam.sayP fs a=true then "yes" else "no")
 | compare {fs as:List Nat}{i j:Nat}{w:Str}:Fml ws.length fs->i<ws.length->j<ws.length->i≠j->qoM ws.length (Fam.sayP fs) i j = .str w::nV as->w.length<=8->as.length<=8->(∀a∈as,a<2^ws.length)->Ask ws "compare" [.fm fs,.nu i,.nu j] (λt=>t=wsT ws w as)
 | turns {fs:List Nat}:Fml ws.length fs->Ask ws "turns" [.fm fs] (λt=>t=qrt (Fam.trns ws.length (Fam.sayP fs)))
 | ranks {fs:List Nat}:Fml ws.length fs->Ask ws "ranks" [.fm fs] (RkT ws (Fam.sayP fs))
 | weights {fs:List Nat}:Fml ws.length fs->ws.length<=5->fs.length<=63->Ask ws "weights" [.fm fs] (λt=>∃v,VtR ws.length fs v/\t=vtT ws v)
theorem qjt {m:Nat}(hm:m<=8)(f:Nat->Bool):∀n∈Fam.trns m f,n<=256:=λn hn=>by
 obtain⟨k,hk,rfl⟩:=ybu.mp hn;unfold Fam.trn;exact ybn (ybo _ _) (by rw[ygk];exact yaf (n:=2) (by decide) hm)
def qge (K:W.Frag):Sp:=sp3 λx y z H Q=>∃(p:Addr) (ws:List Str) (deed:Str) (pt:Addr) (vs:List V) (ths:List Th) (T:Str->Prop),x = .ref p/\H p=some (.lst (sV ws))/\Tx.Wds ws/\y = .str deed/\z = .ref pt/\H pt=some (.lst vs)/\qht H ths vs/\Ask ws deed ths T/\∀t H',T t->qar H H'->Q (.str t) H'
theorem qiv {f:Addr}{fd:FuncData}(F:Fun K "answered" "answered" qel f fd)(T:Txt mg){f_13:Addr}{fd_13:FuncData}(C_13:Cal P w K mg base "show_weights" 3 ["words", "told"] (qsr K) f_13 fd_13){f_16:Addr}{fd_16:FuncData}(C_16:Cal P w K mg base "show_family" 1 ["words", "family"] qhm f_16 fd_16){f_19:Addr}{fd_19:FuncData}(C_19:Cal P w K mg base "show_looked" 1 ["words", "told"] qhm f_19 fd_19){f_01:Addr}{fd_01:FuncData}(C_01:Cal P w K mg base "show_word_and_sets" 3 ["words", "told"] (qlj K) f_01 fd_01){f_12:Addr}{fd_12:FuncData}(C_12:Cal P w K mg base "show_numbers" 1 ["numbers"] (qfe K) f_12 fd_12){f_28:Addr}{fd_28:FuncData}(C_28:Cal P w K mg base "show_ranks" 2 ["words", "told"] (qsl K) f_28 fd_28){f_29:Addr}{fd_29:FuncData}(C_29:Cal P w K mg base "by_weights" 9 ["many", "family"] (qux K) f_29 fd_29){f_69:Addr}{fd_69:FuncData}(C_69:Cal P w K mg base "says" 2 ["family", "one"] (qhT K) f_69 fd_69){f_59:Addr}{fd_59:FuncData}(C_59:Cal P w K mg base "looked" 1 ["family", "one"] qhm f_59 fd_59){f_72:Addr}{fd_72:FuncData}(C_72:Cal P w K mg base "held" 1 ["many", "one", "other"] qhm f_72 fd_72){f_03:Addr}{fd_03:FuncData}(C_03:Cal P w K mg base "compared_unlike" 5 ["many", "family", "x", "y"] (qrO K) f_03 fd_03){f_66:Addr}{fd_66:FuncData}(C_66:Cal P w K mg base "turns" 4 ["many", "family"] (qjk K) f_66 fd_66){f_67:Addr}{fd_67:FuncData}(C_67:Cal P w K mg base "ranks" 5 ["many", "family"] (qi9 K) f_67 fd_67):qaM P w K mg base CX0 10 f fd ["words", "deed", "things"] (qge K):=by
 have sc:=qfz;refine F.ok qfz (λvs H Q E h=>by obtain⟨_,_,_,rfl,_⟩:=h;rfl) (λcdv A outer s H vs Q E hr h=>?_);obtain⟨x0,x1,x2,rfl,h⟩:=h
 refine⟨_,(qab (qat (i:=3) sc.nd rfl (Or.inl rfl) (qas (qaB (K:=K) rfl) (by rfl) T.n_len PySem.boot_len (qaa (pv 0) qac)))
  (qab (qat (i:=4) sc.nd rfl (Or.inl rfl) (qaw (qaO (K:=K) rfl) (pv 2) qae (λ_ _=>rfl)))
  (qab (qaA (qai (qav (K:=K) rfl hr.units0) (pv 1) qaq (qao _)) (qad (qah (pec C_16 hr (qaa (pv 0) (qaa (pv 4) qac))))) qak)
  (qab (qaA (qai (qav (K:=K) rfl hr.units0) (pv 1) qaq (qao _)) (qad (qah (qjW (qa9 (pec C_69 hr (qaa (pv 4) (qaa (qaw (qaO (K:=K) rfl) (pv 2) qae (λ_ _=>rfl)) qac)))) qaq qaq))) qak)
  (qab (qaA (qai (qav (K:=K) rfl hr.units0) (pv 1) qaq (qao _)) (qad (qah (pec C_19 hr (qaa (pv 0) (qaa (pec C_59 hr (qaa (pv 4) (qaa (qaw (qaO (K:=K) rfl) (pv 2) qae (λ_ _=>rfl)) qac))) qac))))) qak)
  (qab (qaA (qai (qav (K:=K) rfl hr.units0) (pv 1) qaq (qao _)) (qad (qah (pec C_01 hr (qaa (pv 0) (qaa (pec C_72 hr (qaa (pv 3) (qaa (pv 4) (qaa (qaw (qaO (K:=K) rfl) (pv 2) qae (λ_ _=>rfl)) qac)))) qac))))) qak)
  (qab (qaA (qai (qav (K:=K) rfl hr.units0) (pv 1) qaq (qao _)) (qad (qah (pec C_01 hr (qaa (pv 0) (qaa (pec C_03 hr (qaa (pv 3) (qaa (pv 4) (qaa (qaw (qaO (K:=K) rfl) (pv 2) qae (λ_ _=>rfl)) (qaa (qaw (qaO (K:=K) rfl) (pv 2) qae (λ_ _=>rfl)) qac))))) qac))))) qak)
  (qab (qaA (qai (qav (K:=K) rfl hr.units0) (pv 1) qaq (qao _)) (qad (qah (pec C_12 hr (qaa (pec C_66 hr (qaa (pv 3) (qaa (pv 4) qac))) qac)))) qak)
  (qab (qaA (qai (qav (K:=K) rfl hr.units0) (pv 1) qaq (qao _)) (qad (qah (pec C_28 hr (qaa (pv 0) (qaa (pec C_67 hr (qaa (pv 3) (qaa (pv 4) qac))) qac))))) qak)
  (qad (qah (pec C_13 hr (qaa (pv 0) (qaa (pec C_29 hr (qaa (pv 3) (qaa (pv 4) qac))) qac)))))))))))))),?_⟩
 refine rdg (σ':=[some x0,some x1,some x2,none,none]) rfl ?_;obtain⟨p,ws,deed,pt,vs,ths,T,rfl,f1,hw,rfl,rfl,f2,hv,hA,q⟩:=h;have h8:=hw.few;walk_at "rd";refine⟨_,.inl (SqL.of f1),?_⟩;rw[qaI];cases hA with
 | @says fs a h ha =>
  obtain⟨v0,us,rfl,⟨p0,rfl,b0⟩,hu⟩:=hv.cons;obtain⟨v1,us',rfl,e1,hu'⟩:=hu.cons;obtain rfl:=hu'.empty;cases e1;refine qaF (SqL.of f2) rfl ?_;have n_show:¬(Str.ofString "says" = Str.ofString "show"):=by decide +kernel
  rw[if_neg n_show,if_pos rfl];refine qaF (SqL.of f2) rfl ⟨_,_,rfl,p0,fs,a,rfl,SqL.of b0,rfl,⟨_,rfl,?_⟩⟩;cases e:Fam.sayP fs a with
  | true=>exact qeK (q _ _ (by rw[e];rfl) (qar.refl _))
  | false=>exact qcA (q _ _ (by rw[e];rfl) (qar.refl _))
 | @turns fs h =>
  obtain⟨v0,us,rfl,⟨p0,rfl,b0⟩,hu⟩:=hv.cons;obtain rfl:=hu.empty;refine qaF (SqL.of f2) rfl ?_;have n_show:¬(Str.ofString "turns" = Str.ofString "show"):=by decide +kernel
  have n_says:¬(Str.ofString "turns" = Str.ofString "says"):=by decide +kernel
  have n_look:¬(Str.ofString "turns" = Str.ofString "look"):=by decide +kernel
  have n_held:¬(Str.ofString "turns" = Str.ofString "held"):=by decide +kernel
  have n_compare:¬(Str.ofString "turns" = Str.ofString "compare"):=by decide +kernel
  rw[if_neg n_show,if_neg n_says,if_neg n_look,if_neg n_held,if_neg n_compare,if_pos rfl];refine⟨_,_,rfl,_,p0,_,rfl,h8,rfl,b0,λH1 p1 hp1 s1 a1=>⟨_,rfl,p1,_,rfl,a1,?_,qjt h8 _,λH2 s2=>q _ _ rfl (s1.trans s2)⟩⟩;unfold Fam.trns;rw[ycd,ygk];omega
 | @compare fs as i j w h hi hj hij he l1 l2 l3 =>
  obtain⟨v0,us,rfl,⟨p0,rfl,b0⟩,hu⟩:=hv.cons;obtain⟨v1,us',rfl,e1,hu'⟩:=hu.cons;obtain⟨v2,us'',rfl,e2,hu''⟩:=hu'.cons;obtain rfl:=hu''.empty;cases e1;cases e2;refine qaF (SqL.of f2) rfl ?_;have n_show:¬(Str.ofString "compare" = Str.ofString "show"):=by decide +kernel
  have n_says:¬(Str.ofString "compare" = Str.ofString "says"):=by decide +kernel
  have n_look:¬(Str.ofString "compare" = Str.ofString "look"):=by decide +kernel
  have n_held:¬(Str.ofString "compare" = Str.ofString "held"):=by decide +kernel
  rw[if_neg n_show,if_neg n_says,if_neg n_look,if_neg n_held,if_pos rfl];refine qaF (SqL.of f2) rfl (qaF (SqL.of f2) rfl ⟨_,_,_,_,rfl,_,p0,fs,i,j,rfl,h8,rfl,b0,rfl,hi,rfl,hj,hij,λt1 H1 ht1 s1 a1=>?_⟩);rw[he] at a1;exact⟨_,_,rfl,p,t1,ws,w,as,rfl,s1 _ _ f1,hw,rfl,a1,l1,l2,l3,λH2 s2=>q _ _ rfl (s1.trans s2)⟩
 | @ranks fs h =>
  obtain⟨v0,us,rfl,⟨p0,rfl,b0⟩,hu⟩:=hv.cons;obtain rfl:=hu.empty;refine qaF (SqL.of f2) rfl ?_;have n_show:¬(Str.ofString "ranks" = Str.ofString "show"):=by decide +kernel
  have n_says:¬(Str.ofString "ranks" = Str.ofString "says"):=by decide +kernel
  have n_look:¬(Str.ofString "ranks" = Str.ofString "look"):=by decide +kernel
  have n_held:¬(Str.ofString "ranks" = Str.ofString "held"):=by decide +kernel
  have n_compare:¬(Str.ofString "ranks" = Str.ofString "compare"):=by decide +kernel
  have n_turns:¬(Str.ofString "ranks" = Str.ofString "turns"):=by decide +kernel
  rw[if_neg n_show,if_neg n_says,if_neg n_look,if_neg n_held,if_neg n_compare,if_neg n_turns,if_pos rfl];exact⟨_,_,rfl,_,p0,_,rfl,h8,rfl,b0,λt1 H1 s1 R1=>⟨_,_,rfl,p,t1,ws,_,H,rfl,s1 _ _ f1,hw,rfl,R1,λz H2 hz s2=>q z _ hz (s1.trans s2)⟩⟩
 | @weights fs h h5 h63 =>
  obtain⟨v0,us,rfl,⟨p0,rfl,b0⟩,hu⟩:=hv.cons;obtain rfl:=hu.empty;refine qaF (SqL.of f2) rfl ?_;have n_show:¬(Str.ofString "weights" = Str.ofString "show"):=by decide +kernel
  have n_says:¬(Str.ofString "weights" = Str.ofString "says"):=by decide +kernel
  have n_look:¬(Str.ofString "weights" = Str.ofString "look"):=by decide +kernel
  have n_held:¬(Str.ofString "weights" = Str.ofString "held"):=by decide +kernel
  have n_compare:¬(Str.ofString "weights" = Str.ofString "compare"):=by decide +kernel
  have n_turns:¬(Str.ofString "weights" = Str.ofString "turns"):=by decide +kernel
  have n_ranks:¬(Str.ofString "weights" = Str.ofString "ranks"):=by decide +kernel
  rw[if_neg n_show,if_neg n_says,if_neg n_look,if_neg n_held,if_neg n_compare,if_neg n_turns,if_neg n_ranks];exact⟨_,_,rfl,_,p0,fs,rfl,h5,rfl,b0,h63,h.rise,h.lt,λt1 v H1 s1 R1 V1=>⟨_,_,rfl,p,t1,ws,v,rfl,s1 _ _ f1,hw,rfl,V1,qmk R1,λH2 s2=>q _ _ ⟨v,R1,rfl⟩ (s1.trans s2)⟩⟩
abbrev qes:Stmt:=qfl (top 78) 1
theorem qe6:qal ["self", "row", "parts", "deed", "things"] ["self", "row"] (qaf qes):=fsc
theorem qnT {c:TT}{t u:TS}{D:qfX}{σ:L2.St}{H:Hp}:qmV (qr0 c t qlF) u D σ H↔c σ H λb H1=>if b=true then t { D with nx:=u D } σ H1 else u D σ H1:=Iff.rfl
theorem qgj {α:Type}{k:Str}{v:α}:∀{l:List (Str×α)},l.lookup k=some v->(k,v)∈l
 | [],h=>by cases h
 | (y,u)::l,h=>by
  rw[yfu] at h;by_cases e:k=y
  .subst e
   simp at h;subst h;exact ybd
  .rw[beq_eq_false_iff_ne.mpr e] at h
   exact ybg _ (qgj h)
theorem qkr {d:Str}{ks:List Str}(h:wanted d=some ks):ks.length<=20:=by
 have:∀p∈qiP,p.2.length<=20:=by decide +kernel
 exact this (d,ks) (qgj h)
def qmx (cD:Addr):Sp:=sp2 λx y H Q=>∃(d pk:Addr) (ws:List Str) (m:List (Str×List Nat)) (z deed:Str) (r ks:List Str) (ths:List Th),x = .ref d/\qda cD H d pk ws m/\y = .str z/\Prt z deed r ks/\qnk ws m ks r ths /\
 ((∃(n:Str) (qiW:List Th) (gs:List Nat),ks[0]?=some ("new" : Str)/\ths = .nm n::qiW/\MkR ws.length deed qiW gs/\Fml ws.length gs/\(m.lookup n≠none\/m.length<20)/\∀H',SmB pk H H'->qda cD H' d pk ws (qpH m n gs)->Q (.str "ok") H') \/
  ∃(k0:Str) (T:Str->Prop),ks[0]?=some k0/\k0 ≠ "new" /\ Ask ws deed ths T/\∀t H',T t->qar H H'->Q (.str t) H')
theorem qiU {f:Addr}{fd:FuncData}(F:Fun K "say" "Desk.say" qes f fd)(T:Txt mg){cD aW:Addr}(Z:Xt P w K mg cD aW){f_49:Addr}{fd_49:FuncData}(C_49:Cal P w K mg base "parts_of" 1 ["row"] (qhY K) f_49 fd_49){f_50:Addr}{fd_50:FuncData}(C_50:Cal P w K mg base "answered" 10 ["words", "deed", "things"] (qge K) f_50 fd_50){f_10:Addr}{fd_10:FuncData}(C_10:qeQ P w K mg base cD "thing_of" 5 ["self", "kind", "word"] (qm0 cD) f_10 fd_10){f_02:Addr}{fd_02:FuncData}(C_02:qeQ P w K mg base cD "look_for_room" 1 ["self", "name"] (qoY cD) f_02 fd_02){f_73:Addr}{fd_73:FuncData}(C_73:Cal P w K mg base "made" 4 ["many", "deed", "things"] (qo2 K) f_73 fd_73):qaM P w K mg base CX0 11 f fd ["self", "row"] (qmx cD):=by
 have sc:=qe6;refine F.ok qe6 (λvs H Q E h=>by obtain⟨_,_,rfl,_⟩:=h;rfl) (λcdv A outer s H vs Q E hr h=>?_);obtain⟨x0,x1,rfl,h⟩:=h
 refine⟨_,(qab (qat (i:=2) sc.nd rfl (Or.inl rfl) (pec C_49 hr (qaa (pv 1) qac)))
  (qab (qat (i:=3) sc.nd rfl (Or.inl rfl) (qaw (qaO (K:=K) rfl) (pv 2) qae (λ_ _=>rfl)))
  (qab (qbs (i:=4) sc.nd rfl rfl (by rfl) (N:=["kind", "word", "self"]) (nt:=2) (caps:=[0]) qax rfl (qpR (K:=K) rfl (by rfl) T.n_zip (qaa (qiG (P:=P) (w:=w) (K:=K) rfl rfl rfl (qey (v := .ref aW) (by rfl) Z.gW rfl) (pv 3) (λ_ _=>rfl)) (qaa (qaS (qkF (K:=K) rfl) (pv 2) (qa7 qae) qbm) qac))) (λ_ _ _ _ _=>(qgq (n:=2) rfl (qa1 (qam (i:=0) (show List.Nodup (α:=Str) ["kind", "word", "self"] from by decide +kernel) rfl (Or.inl rfl)) (qa1 (qam (i:=1) (show List.Nodup (α:=Str) ["kind", "word", "self"] from by decide +kernel) rfl (Or.inl rfl)) qen)))) qoS (λ_ _ _ _ _=>qaD) (λ_ _ _ _ _=>(qbF (pv 2) Z.cl C_10 hr (by decide) (qaa (pv 0) (qaa (pv 1) qac)))))
  (qab (qaA (qai (qav (K:=K) rfl hr.units0) (qaw (qaO (K:=K) rfl) (qiG (P:=P) (w:=w) (K:=K) rfl rfl rfl (qey (v := .ref aW) (by rfl) Z.gW rfl) (pv 3) (λ_ _=>rfl)) qae (λ_ _=>rfl)) qaq (qao _)) (qab (qco (qbF (pv 0) Z.cl C_02 hr (by decide) (qaa (qaw (qaO (K:=K) rfl) (pv 4) qae (λ_ _=>rfl)) qac)))
  (qab (qpW (qoC hr) (qdh (pv 0) rfl) (qaw (qaO (K:=K) rfl) (pv 4) qae (λ_ _=>rfl)) (pec C_73 hr (qaa (qas (qaB (K:=K) rfl) (by rfl) T.n_len PySem.boot_len (qaa (qdh (pv 0) rfl) qac)) (qaa (pv 3) (qaa (qaS (qkF (K:=K) rfl) (pv 4) (qa7 qae) qbm) qac)))) rfl)
  (qad (qah qaq)))) qak)
  (qad (qah (pec C_50 hr (qaa (qdh (pv 0) rfl) (qaa (pv 3) (qaa (pv 4) qac)))))))))),?_⟩
 refine rdg (σ':=[some x0,some x1,none,none,none]) rfl ?_;obtain⟨d,pk,ws,m,z,deed,r,ks,ths,rfl,D,rfl,hP,hT,h⟩:=h;obtain⟨dx,pw,o1,o2⟩:=D.ob;obtain⟨kvs,kd1,kd2⟩:=Z.wn.kv;obtain⟨tw,vt,ht⟩:=kd2 deed ks hP.kd;have lT:=hT.1;have lN:=hP.ln;have l20:ks.length<=20:=qkr hP.kd;walk_at "rd";refine⟨_,rfl,z,deed,r,ks,rfl,hP,λp1 H1 hp1 s1 a1=>?_⟩;refine qaF (SqL.of a1) (qbh (i:=0) rfl) ⟨kvs,Sum.inr deed,rfl,kd1,_,vt,p1,_,rfl,SqL.of a1,λp2 hp2=>?_⟩;rw[show(1:Int)=((1:Nat):Int) from rfl,qbY,show(sV (deed::r)).drop 1=sV r from rfl];generalize g2:upd H1 p2 _=G2;have a2:=qap g2;have s2:=s1.trans (qaj g2 hp2);refine⟨tw,p2,⟨rfl,rfl⟩,_,ht G2,_,SqL.of a2,qsA (xs:=sV ks) (ys:=sV r) (by rw[qaI,qaI,lN]) (λi zs H3=>qar G2 H3/\qht H3 (ths.take i) zs) ⟨qar.refl _,qht.nil⟩ (ybn (by rw[qaI];omega) (show 100000<=sizeLine by decide)) (λi zs H3 hi h=>⟨ht _,SqL.of (h.1 _ _ a2),by rw[<-h.2.1,yfb];omega⟩) (λi x y zs H3 t hx hy h hn3 R R' r1 r2=>?_) λzs H3 h p3 hp3=>?_⟩
 .obtain⟨s3,hv⟩:=h
  rw[ycp] at hx hy;cases ek:ks[i]? with
  | none=>rw[ek] at hx;cases hx
  | some k =>
  cases ew:r[i]? with
  | none=>rw[ew] at hy;cases hy
  | some w =>
  rw[ek] at hx;rw[ew] at hy;cases hx;cases hy
  have hi:i<ths.length:=by
   have:=(ycm.mp ek).1;omega
  have et:ths[i]?=some ths[i]:=yck hi;have hth:=hT.2 i k w _ ek ew et;have s4:=qar.new (o := .tup [.str k,.str w]) hn3;have D4:=((D.same s2).same s3).same s4;obtain⟨dx4,pw4,o4,_⟩:=D4.ob
  (try walk_at "rd")
  refine⟨_,SqT.of qag,rfl,_,_,rfl,_,_,rfl,rfl,dx4,_,o4,qcs _ _ (by decide +kernel) (by decide +kernel),_,_,_,rfl,d,pk,ws,m,k,w,_,rfl,D4,rfl,rfl,hth,λv H5 s5 hv5=>r1 v H5 ⟨(s3.trans s4).trans s5,?_⟩⟩;rw[ygq,et];exact((hv.same s4).same s5).snoc hv5
 obtain⟨s3,hv⟩:=h;rw[qaI,<-lT,ydi] at hv;generalize g3:upd H3 p3 _=G3;have a3:=qap g3;have t3:=qaj g3 hp3;have s3:=(s2.trans s3).trans t3;have hv:=hv.same t3;have D3:=D.same s3;clear g3 a1 a2 s1 g2 s2;refine qnT.mpr ?_;walk_at "rd";rcases h with⟨n,qiW,gs,k0,rfl,hM,hF,hm,q⟩ | ⟨k0,T,e0,k0,hA,q⟩
 .refine⟨kvs,Sum.inr deed,rfl,kd1,_,vt,qbt (ht _) (qbh (i:=0) k0) ⟨_,.inl ⟨rfl,rfl⟩,⟨true,congrArg V.bl (decide_eq_true rfl),qeK ?_⟩⟩⟩
  obtain⟨v0,us,rfl,rfl,hu⟩:=hv.cons;obtain⟨dx3,pw3,o3,w3⟩:=D3.ob;refine⟨dx3,_,o3,qcs _ _ (by decide +kernel) (by decide +kernel),qaF (SqL.of a3) (qaR (j:=0) rfl) ⟨_,_,rfl,d,pk,ws,m,n,rfl,D3,rfl,hm,cD,dx3,_,o3,Z.cl,Z.nw,_,qim _ _,pw3,rfl,_,.inl (SqL.of w3),p3,_,rfl,SqL.of a3,λp4 hp4=>?_⟩⟩;rw[qbY,show(V.str n::us).drop 1=us from rfl,qaI];generalize g4:upd G3 p4 _=G4;have a4:=qap g4;have t4:=qaj g4 hp4;refine⟨_,_,_,rfl,ws.length,deed,p4,us,qiW,gs,rfl,D.wd.few,rfl,rfl,a4,hu.same t4,hM,λp5 H5 s5 a5=>?_⟩;have D5:=(D3.same t4).same s5;obtain⟨dx5,pw5,o5,w5⟩:=D5.ob;obtain⟨kv5,c5,k5⟩:=D5.dc;refine⟨cD,dx5,_,o5,Z.cl,Z.nk,_,qhD _ _,qaF (SqL.of (s5 _ _ (t4 _ _ a3))) (qaR (j:=0) rfl) ⟨pk,rfl,_,qrq.k (k:=Sum.inr n) c5 (qcv (by have:=D5.ms;have:=k5.1;omega)),q _ (λb o e hb=>by rw[qay hb];exact s5 _ _ (t4 _ _ (s3 _ _ e))) ?_⟩⟩;refine⟨⟨dx5,pw5,by rw[qay λe=>by rw[e,c5] at o5;cases o5];exact o5,by rw[qay λe=>by rw[e,c5] at w5;cases w5];exact w5⟩,⟨_,qag,(k5.put a5).same λp fs h=>by rw[qay λe=>by rw[e,c5] at h;cases h];exact h⟩,D.wd,λx fs h=>?_,?_⟩
  .rw[qcy] at h
   by_cases e:x=n
   .rw[if_pos e] at h
    cases h;exact hF
   .rw[if_neg e] at h
    exact D.fm x fs h
  .rw[qdy]
   have:=D.ms;cases e:m.lookup n with
   | some gs=>simpa using this
   | none =>
    rcases hm with h | h
    .exact absurd e h
    .simp
     omega
 .refine⟨kvs,Sum.inr deed,rfl,kd1,_,vt,qbt (ht _) (qbh (i:=0) e0) ⟨_,.inl ⟨rfl,rfl⟩,⟨false,congrArg V.bl (decide_eq_false λe=>k0 (V.str.inj e)),qcA ?_⟩⟩⟩
  obtain⟨dx3,pw3,o3,w3⟩:=D3.ob;exact⟨cD,dx3,_,o3,Z.cl,Z.nw,_,qim _ _,_,_,_,rfl,pw3,ws,deed,p3,zs,ths,T,rfl,w3,D.wd,rfl,rfl,a3,hv,hA,λt H4 ht s4=>q t _ ht (s3.trans s4)⟩
abbrev qdn:Stmt:=top 93
theorem qeF:qal ["_law_script", "_law_many", "_law_family_here", "_law_cells_here", "_law_sums", "_law_one", "_law_yes"] ["_law_script"] (qaf qdn):=fsc
theorem qof {A:List Nat}(hr:A.Pairwise (· < ·)):A.filter (λa=>decide (A.filter (λb=>decide (b≠a/\a&&&b=b))=[]))=Fam.mins A:=by
 refine Fam.rise_ext (hr.sublist ybc) (Fam.mins_rise hr) λa=>?_;rw[yba,decide_eq_true_eq,ygr,Fam.mem_mins hr];constructor
 .rintro⟨h1,h3⟩
  refine⟨h1,λb hb hs=>?_⟩;have:=h3 b hb;rw[decide_eq_true_eq] at this;exact Classical.byContradiction λhne=>this ⟨hne,hs⟩
 .rintro⟨h1,h3⟩
  refine⟨h1,λb hb=>?_⟩;rw[decide_eq_true_eq];rintro⟨hne,hs⟩;exact hne (h3 b hb hs)
def qlE (K:W.Frag):Sp:=sp1 λx H Q=>∃(a:Addr) (ns:List Int),x = .ref a/\SqL K H a (ns.map V.int)/\ns.length<=63/\∀(t p:Addr) (m:Nat) (fs:List Nat) (H':Hp),m<=5->qar H H'->H' t=some (.tup [.int (m:Nat),.ref p])->H' p=some (.lst (nV fs))->fs.Pairwise (· < ·)->(∀b∈fs,b<2^m)->fs.length<=63->((qrs 63 ns).getD 2 0%2=0->∃(W:List Nat) (bar:Int),W.length=m/\∀s,s<2^m->Fam.sayP fs s=Fam.heavy W bar s)->Q (.ref t) H'
theorem qhw {f:Addr}{fd:FuncData}(F:Fun K "_law_made" "_law_made" qdn f fd)(T:Txt mg){f_23:Addr}{fd_23:FuncData}(C_23:Cal P w K mg base "_law_drawn" 2 ["_law_script", "_law_bound"] (qm7 K) f_23 fd_23){f_22:Addr}{fd_22:FuncData}(C_22:Cal P w K mg base "_law_cells" 1 ["_law_script", "_law_amount"] (qgw K) f_22 fd_22):qaM P w K mg base CX0 3 f fd ["_law_script"] (qlE K):=by
 have sc:=qeF;refine F.ok qeF (λvs H Q E h=>by obtain⟨_,rfl,_⟩:=h;rfl) (λcdv A outer s H vs Q E hr h=>?_);obtain⟨x0,rfl,h⟩:=h
 refine⟨_,(qab (qmC (pec C_23 hr (qaa (pv 0) (qaa qae qac))) (qgq (n:=2) rfl (qa1 (qam (i:=1) sc.nd rfl (Or.inl rfl)) (qa1 (qam (i:=2) sc.nd rfl (Or.inl rfl)) qen))))
   (qab (qat (i:=3) sc.nd rfl (Or.inr rfl) (pec C_22 hr (qaa (pv 0) (qaa qae qac))))
   (qab (qaA (qai (qav (K:=K) rfl hr.units0) (qan qa3 (qaw (qaO (K:=K) rfl) (pv 3) qae (λ_ _=>rfl)) qae) qae (qao _)) (qad (qah (qb9 (qaa (pv 1) (qaa (pv 2) qac))))) qak)
   (qab (qat (i:=4) sc.nd rfl (Or.inr rfl) (qaJ qac))
   (qab (qaZ PassesOwn.never rfl (qaG (by rfl) T.n_range (qaa (qan qa0 qae (pv 1)) qac)) (qam (i:=5) sc.nd rfl (Or.inr rfl)) (qad (qco (qbj ygw ygx ygy qbI (pv 4) (qaa (qas (qch (K:=K) rfl rfl) (by rfl) T.n_sum PyProof.Rows.boot_sum (qaa (qaH (N:=["_law_k", "_law_cells_here", "_law_one"]) (nt:=1) (caps:=[3,5]) qax rfl (qaG (by rfl) T.n_range (qaa (pv 1) qac)) (λ_ _ _ _ _=>(qam (i:=0) (show List.Nodup (α:=Str) ["_law_k", "_law_cells_here", "_law_one"] from by decide +kernel) rfl (Or.inl rfl))) qaz (λ_ _ _ _ _=>(qb6 (qai (qav (K:=K) rfl hr.units0) (qan qce (qan qeL (pv 2) (pv 0)) qae) qae (qao _)))) (λ_ _ _ _ _=>(qan qa3 (qaw (qaO (K:=K) rfl) (pv 1) (qan qbf qae (pv 0)) (λ_ _=>rfl)) qae))) qac)) qac)))))
   (qab (qat (i:=6) sc.nd rfl (Or.inr rfl) (qaH (N:=["_law_one", "_law_sums", "_law_cells_here"]) (nt:=1) (caps:=[4,3]) qax rfl (qaG (by rfl) T.n_range (qaa (qan qa0 qae (pv 1)) qac)) (λ_ _ _ _ _=>(qam (i:=0) (show List.Nodup (α:=Str) ["_law_one", "_law_sums", "_law_cells_here"] from by decide +kernel) rfl (Or.inl rfl))) qaz (λ_ _ _ _ _=>(qb6 (qai qnR (qaw (qaO (K:=K) rfl) (pv 1) (pv 0) (λ_ _=>rfl)) (qan qa3 (qan qbd (qaw (qaO (K:=K) rfl) (pv 2) qae (λ_ _=>rfl)) qae) qae) (qao _)))) (λ_ _ _ _ _=>(pv 0))))
   (qad (qah (qb9 (qaa (pv 1) (qaa (qot (N:=["_law_one", "_law_yes"]) (nt:=1) (caps:=[6]) (cx := "_law_one") (qog (λ_ _=>rfl) (λ_=>rfl)) rfl (qb1 (K:=K) rfl (pv 6)) (λ_ _ _ _ _=>(qam (i:=0) (show List.Nodup (α:=Str) ["_law_one", "_law_yes"] from by decide +kernel) rfl (Or.inr rfl))) qaz (λ_ _ _ _ _=>(qb6 (qai (qav (K:=K) rfl hr.units0) (qaH (N:=["_law_other", "_law_one"]) (nt:=1) (caps:=[0]) qax rfl (qb1 (K:=K) rfl (pv 1)) (λ_ _ _ _ _=>(qam (i:=0) (show List.Nodup (α:=Str) ["_law_other", "_law_one"] from by decide +kernel) rfl (Or.inl rfl))) qaz (λ_ _ _ _ _=>(qb6 (PW.pt (qcB (qai (qbW (K:=K) rfl hr.units0) (pv 0) (pv 1) (qao _)) (qbO (qai (qav (K:=K) rfl hr.units0) (qan qce (pv 1) (pv 0)) (pv 0) (qao _))))))) (λ_ _ _ _ _=>(pv 0))) (qaJ qac) (qao _)))) (λ_ _ _ _ _=>(pv 0))) qac))))))))))),?_⟩
 refine rdg (σ':=[some x0,none,none,none,none,none,none]) rfl ?_;obtain⟨a,ns,rfl,hS,hlen,q⟩:=h;walk_at "rd";refine⟨_,_,rfl,a,ns,5,rfl,hS,hlen,rfl,by omega,λt p m fs H1 hm hp s1 ht f1 hr hb h63=>?_⟩;refine⟨t,rfl,_,SqT.of ht,rfl,_,_,rfl,_,_,rfl,rfl,?_⟩
 (try walk_at "rd")
 refine⟨_,_,rfl,a,ns,63,rfl,s1.seq hS,hlen,rfl,by omega,λpc cs H2 hpc s2 c2 lc ec=>?_⟩;rw[<-ec] at q;clear ec;have s12:=s1.trans s2;have f2:=s2 _ _ f1;obtain⟨c,e2⟩:∃c,cs[2]?=some c:=⟨_,yck (show 2<cs.length by omega)⟩;have g2:cs.getD 2 0=c:=by rw[ycj,e2];rfl
 rw[g2] at q
 (try walk_at "rd")
 refine qaF (SqL.of c2) (qd1 e2) ?_
 (try walk_at "rd")
 refine⟨by decide,qqz (λh1=>?_) λh1=>?_⟩
 . refine⟨qau (by simp),λt3 ht3=>q t3 p m fs _ hm (s12.trans (qar.new ht3)) qag (qar.new ht3 _ _ f2) hr hb h63 λh=>absurd h (by omega)⟩
 have pp:=yah m;have p32:2^m<=32:=yaf (n:=2) (by decide) hm;refine⟨qau (by simp),λp3 hp3=>?_⟩;generalize g3:upd H2 p3 _=G3;have a3:G3 p3=some (.lst (nV ((List.range 0).map (Fam.wt [])))):=qap g3;have s3:=qaj g3 hp3;obtain⟨W,eW⟩:∃W,W=(List.range m).map λk=>cs.getD (3+k) 0%7:=⟨_,rfl⟩;have lW:W.length=m:=by rw[eW];simp
 have gW:∀k,k<m->W.getD k 0=cs.getD (3+k) 0%7:=λk hk=>by
   rw[ycj,eW,ycp,ycq hk];rfl
 clear eW;have e3:∀k,k<m->cs[3+k]?=some (cs.getD (3+k) 0):=λk hk=>by rw[ycj,yck (by omega)];rfl
 rw[qaQ];refine⟨qaK (by omega) (by omega) (by decide) (by decide),by omega,by omega,?_⟩;rw[yfg];refine qeM (λi σ H'=>∃v,σ=[some (.ref a),some (.int (m:Nat)),some (.ref p),some (.ref pc),some (.ref p3),v,none]/\qar H2 H'/\H' p3=some (.lst (nV ((List.range i).map (Fam.wt W))))) ⟨none,rfl,s3,a3⟩ ?_ ?_
 . rintro i σ H4 hi ⟨v,rfl,s4,b3⟩ N hN
   (try walk_at "rd")
   refine⟨qaX b3,by omega,by omega,?_⟩;rw[yfg];refine qcQ (λk=>i.testBit k) (λk => .int (W.getD k 0:Nat)) (by omega) (λk hk H5 s5 R R' r1 r2=>?_) λH5 p5 s5 hp5=>?_
   . (try walk_at "rd")
     refine⟨by omega,qfM qdx (λhc=>?_) λhc=>r2 hc _ (qar.refl _)⟩;rw[show(3:Int)+(k:Int)=((3+k:Nat):Int) by omega];refine qaF (SqL.of (s5 _ _ (s4 _ _ c2))) (qd1 (e3 k hk)) ?_
     (try walk_at "rd")
     refine⟨by decide,?_⟩;rw[show((cs.getD (3+k) 0:Nat):Int)%7=((W.getD k 0:Nat):Int) by rw[gW k hk];rfl];exact r1 hc _ (qar.refl _)
   have e:((List.range m).filter λk=>i.testBit k).map (λk=>V.int (W.getD k 0:Nat))=nV ((Fam.nms 8 i).map λk=>W.getD k 0):=by
     rw[show((List.range m).filter λk=>i.testBit k)=Fam.nms 8 i from qkU (by omega) hi];simp
   rw[e];generalize g5:upd H5 p5 _=G5;have a5:=qap g5;have s5':=s5.trans (qaj g5 hp5);refine⟨p5,rfl,nI ((Fam.nms 8 i).map λk=>W.getD k 0),SqL.of a5,?_⟩;rw[qha,show((Fam.nms 8 i).map λk=>W.getD k 0).sum=Fam.wt W i from rfl];refine⟨p3,_,_,rfl,rfl,s5' _ _ b3,qcv (by rw[qaP];simp;omega),hN _ _ ⟨_,rfl,(s4.trans s5').upd hp3,?_⟩⟩;rw[qag,qfc,yds,ycv];rfl
 rintro σ H4 ⟨v,rfl,s4,b3⟩
 (try walk_at "rd")
 rw[qaQ];refine⟨qaK (by omega) (by omega) (by decide) (by decide),by omega,by omega,?_⟩;rw[yfg];have c4:=s4 _ _ c2;refine qcQ (λs=>Fam.heavy W ((c:Int)/2%20) s) (λs => .int (s:Nat)) (by omega) (λs hs H5 s5 R R' r1 r2=>?_) λH5 p5 s5 hp5=>?_
 . (try walk_at "rd")
   refine qaF (SqL.of (s5 _ _ b3)) (qd1 (show((List.range (2^m)).map (Fam.wt W))[s]?=some (Fam.wt W s) by rw[ycp,ycq hs];rfl)) (qaF (SqL.of (s5 _ _ c4)) (qd1 e2) ?_)
   (try walk_at "rd")
   exact⟨⟨by decide,by decide⟩,by decide,qfM (b:=Fam.heavy W ((c:Int)/2%20) s) (by unfold Fam.heavy;rw[decide_eq_true_eq]) (λhc=>r1 hc _ (qar.refl _)) λhc=>r2 hc _ (qar.refl _)⟩
 generalize (c:Int)/2%20=bar;rw[qjT,show((List.range (2^m)).filter λs=>Fam.heavy W bar s)=Fam.yes m (Fam.heavy W bar) from rfl];have yl:=Fam.yes_len m (Fam.heavy W bar);have yr:=Fam.yes_rise m (Fam.heavy W bar);have ylt:∀b∈Fam.yes m (Fam.heavy W bar),b<2^m:=λb hb=>(Fam.mem_yes.mp hb).1;have yup:=Fam.up_heavy m W bar;have ysay:∀s,s<2^m->Fam.sayP (Fam.yes m (Fam.heavy W bar)) s=Fam.heavy W bar s:=λs hs=>Fam.say_yes yup hs;generalize Fam.yes m (Fam.heavy W bar)=L at *;generalize g5:upd H5 p5 _=G5;have a1:=qap g5;have t1:=(s4.trans s5).trans (qaj g5 hp5)
 (try walk_at "rd")
 refine⟨⟨_,SqL.of a1⟩,qbv (fs:=L) (λa=>decide (L.filter (λb=>decide (b≠a/\a&&&b=b))=[])) (λa => .int (a:Nat)) (SqL.of a1) (by omega) (λa ha H2 s2 R R' r1 r2=>?_) λH6 p6 s6 hp6=>?_⟩
 . (try walk_at "rd")
   refine⟨⟨_,SqL.of (s2 _ _ a1)⟩,qbv (fs:=L) (λb=>decide (b≠a/\a&&&b=b)) (λb => .int (b:Nat)) (SqL.of (s2 _ _ a1)) (by omega) (λb hb H3 s3 R2 R2' u1 u2=>?_) λH3 p3 s3 hp3=>?_⟩
   . (try walk_at "rd")
     by_cases e1:b=a
     . exact⟨false,by rw[decide_eq_true (by omega)];rfl,qcA (u2 (decide_eq_false λh=>h.1 e1) _ (qar.refl _))⟩
     . refine⟨true,by rw[decide_eq_false (by omega)];rfl,qeK ?_⟩
       rw[qdo];by_cases e2:a&&&b=b
       . rw[if_pos (by rw[e2])]
         exact u1 (decide_eq_true ⟨e1,e2⟩) _ (qar.refl _)
       . rw[if_neg (by omega)]
         exact u2 (decide_eq_false λh=>e2 h.2) _ (qar.refl _)
   . rw[qna]
     refine⟨qau (by simp),λp4 hp4=>?_⟩;generalize g3:upd H3 p3 _=G3 at hp4⊢;have a3:=qap g3;have w3:=s3.trans (qaj g3 hp3);generalize g4:upd G3 p4 _=G4;have a4:=qap g4;have w4:=w3.trans (qaj g4 hp4);refine qgO (SqL.of (qaj g4 hp4 _ _ a3)) (SqL.of a4) (qie _) rfl ?_;rw[show([]:List V)=nV [] from rfl,qmP];by_cases e:L.filter (λb=>decide (b≠a/\a&&&b=b))=[]
     . exact⟨true,by rw[decide_eq_true e],qeK (r1 (decide_eq_true e) _ w4)⟩
     . exact⟨false,by rw[decide_eq_false e],qcA (r2 (decide_eq_false e) _ w4)⟩
 rw[qna,qof yr];generalize g6:upd H6 p6 _=G6;have a6:=qap g6;have t6:=(s12.trans t1).trans (s6.trans (qaj g6 hp6));refine⟨qau (by simp),λt7 ht7=>q t7 p6 m _ _ hm (t6.trans (qar.new ht7)) qag (qar.new ht7 _ _ a6) (Fam.mins_rise yr) (λb hb=>ylt b (Fam.mins_sub yr b hb)) (ybn (Fam.pick_len _ _) (by omega)) λ_=>⟨W,bar,lW,λs hs=>by rw[Fam.say_mins yr,ysay s hs]⟩⟩
abbrev qdt:Stmt:=top 94
theorem qeH:qal ["_law_desk", "_law_words_here", "_law_one"] ["_law_desk", "_law_words_here", "_law_one"] (qaf qdt):=fsc
theorem qjc:∀(ds:List Str) (w:Str),pre ds w=pre ds Str.empty++w
 | [],w=>by
  show w=(⟨#[]++w.cps⟩:Str);rw[Array.empty_append]
 | d::ds,w=>by
  show d ++ " " ++ pre ds w=(d ++ " " ++ pre ds Str.empty)++w;rw[qjc ds w,qcI,qcI,qcI]
theorem qqV {ws:List Str}{a:Nat}{z d:Str}(hw:Tx.Wds ws)(ha:a<2^ws.length)(hz:z=pre [d, "a"] Str.empty)(h1:wanted d=some (["family", "set"]:List Str))(hd:¬d = "let")(hf:∀x∈[d,("a" : Str)],32∉Tx.sg x)(hs:z.length<=100):Prt (z++Tx.sT ws a) d ["a",Tx.sT ws a] ["family", "set"]:=by
 have e:z++Tx.sT ws a=pre [d, "a"] (Tx.sT ws a):=by rw[qjc,hz]
 rw[e];refine qmY (ds:=["a"]) h1 hd hf (Tx.sT_free hw ha) rfl ?_;rw[<-e,Str.length_append];have:=Tx.sT_len hw ha;omega
theorem qqx {v w:Str}(hv:Tx.Wd v)(hw:Tx.Wd w):Prt (_root_.PySem.Txt.join " " [Str.ofString "compare a",v,w]) "compare" ["a",v,w] ["family", "name", "name"]:=by
 have e:_root_.PySem.Txt.join " " [Str.ofString "compare a",v,w]=pre ["compare", "a",v] w:=by
  show _=("compare" : Str) ++ " " ++ (("a" : Str) ++ " " ++ (v ++ " " ++ w));rw[qcN (z:=Str.ofString "compare a ") (by decide +kernel) (by simp),qcN (l:=[w]) rfl (by simp),show Str.ofString "compare a " = ("compare" : Str) ++ " " ++ (("a" : Str) ++ " ") by decide +kernel,show _root_.PySem.Txt.join " " [w]=w from rfl];simp only[qcI]
 rw[e];refine qmY (ds:=["a",v]) (by decide +kernel) (by decide +kernel) (λd hd=>?_) (hw.free (by decide)) rfl ?_
 .rcases ybf.mp hd with rfl | hd
  .decide +kernel
  .rcases ybf.mp hd with rfl | hd
   .decide +kernel
   .rw[yei.mp hd]
    exact hv.free (by decide)
 show(("compare" : Str) ++ " " ++ (("a" : Str) ++ " " ++ (v ++ " " ++ w))).length<=_;have:=hv.2.1;have:=hw.2.1;simp only[Str.length_append,show("compare" : Str).length=7 by decide +kernel,show(" " : Str).length=1 by decide +kernel,show("a" : Str).length=1 by decide +kernel];omega
def qkH (n:Nat):Str:=Str.ofString (toString ((n:Nat):Int))
theorem qjP:∀n,n<=256->32∉Tx.sg (qkH n):=by
 have:∀n,n<257->32∉Tx.sg (qkH n):=by decide +kernel
 exact λn h=>this n (by omega)
theorem qku {ws:List Str}(hw:Tx.Wds ws){k:Nat}(hk:k<ws.length):Tx.Wd (ws.getD k Str.empty):=by
 rw[ycj,yck hk];exact hw.wd _ (ydp _)
theorem qq6 {ws:List Str}(hw:Tx.Wds ws){ks:List Nat}(hk:∀k∈ks,k<ws.length):32∉Tx.sg (alT ws ks):=λh=>by
 unfold alT at h;rw[qfa,Tx.txt_join] at h;rcases Tx.jn_mem h with e | ⟨x,hx,hd⟩
 .cases e
 .obtain⟨w,hw',rfl⟩:=ybu.mp hx
  obtain⟨k,hk',rfl⟩:=ybu.mp hw';exact(qku hw (hk k hk')).free (by decide) hd
theorem qns {ws:List Str}(hw:Tx.Wds ws){ks:List Nat}(h0:ks≠[])(hk:∀k∈ks,k<ws.length):_root_.PySem.Txt.split (alT ws ks) (Str.ofString "=")=ks.map λk=>ws.getD k Str.empty:=by
 unfold alT;rw[show Str.ofString "=" = ⟨#[61]⟩ from qfa];refine Tx.split_join (by simpa using h0) λw hw'=>?_;obtain⟨k,hk',rfl⟩:=ybu.mp hw';exact(qku hw (hk k hk')).free (by decide)
/-- words that may stand in a row -/
def Prs (l:List Str):Prop:=l≠[]/\l.length<=20/\∀w∈l,32∉Tx.sg w/\w.length<=100
theorem Prs.split {l:List Str}(h:Prs l):_root_.PySem.Txt.split (_root_.PySem.Txt.join " " l) (Str.ofString " ")=l:=by
 rw[show Str.ofString " " = ⟨#[32]⟩ from Tx.lit_space];exact Tx.split_join h.1 λw hw=>(h.2.2 w hw).1
theorem Prs.len {l:List Str}(h:Prs l):(_root_.PySem.Txt.join " " l).length<=10000:=by
 rw[<-Tx.len_sg,Tx.lit_space,Tx.txt_join];refine ybn (Tx.jn_len (M:=100) λx hx=>?_) (show _*101<=_ by have:=h.2.1;rw[ycd];omega);obtain⟨w,hw',rfl⟩:=ybu.mp hx;rw[Tx.len_sg];exact(h.2.2 w hw').2
theorem qth {w:Str}(h:Tx.Wd w):32∉Tx.sg w/\w.length<=100:=⟨h.free (by decide),ybn h.2.1 (by decide)⟩
theorem qnW {ws:List Str}(hw:Tx.Wds ws){a:Nat}(ha:a<2^ws.length):32∉Tx.sg (Tx.sT ws a)/\(Tx.sT ws a).length<=100:=⟨Tx.sT_free hw ha,ybn (Tx.sT_len hw ha) (by decide)⟩
def vtP (ws:List Str):Vt->List Str
 | .w N b=>("weights" : Str)::(N++[b]).map qkH
 | .t ys ns=>("trade" : Str)::((ys.map (Tx.sT ws)++[("/" : Str)])++ns.map (Tx.sT ws))
theorem qmK (ws:List Str):∀v,vtT ws v=_root_.PySem.Txt.join " " (vtP ws v)
 | .w N b=>(qcN (by decide +kernel) (by simp)).symm
 | .t ys ns=>rfl
theorem qsj {ws:List Str}(hw:Tx.Wds ws):∀{v:Vt},VtB ws.length v->Prs (vtP ws v)
 | .w N b,⟨h1,h2,h3⟩=>by
  have h8:=hw.few;refine⟨by simp[vtP],by simp[vtP];omega,λw hm=>?_⟩;rcases ybf.mp hm with rfl | hm
  .exact⟨by decide +kernel,by decide +kernel⟩
  .obtain⟨n,hn,rfl⟩:=ybu.mp hm
   have:=qhj h2 h3 n hn;exact⟨qjP n this,ybn (qgG n this) (by decide)⟩
 | .t ys ns,⟨h1,h2,h3,h4⟩=>by
  refine⟨by simp[vtP],by simp[vtP];omega,λw hm=>?_⟩;rcases ybf.mp hm with rfl | hm
  .exact⟨by decide +kernel,by decide +kernel⟩
  .rcases yav.mp hm with hm | hm
   .rcases yav.mp hm with hm | hm
    .obtain⟨b,hb,rfl⟩:=ybu.mp hm
     exact qnW hw (h3 b hb)
    .rw[yei.mp hm]
     exact⟨by decide +kernel,by decide +kernel⟩
   .obtain⟨b,hb,rfl⟩:=ybu.mp hm
    exact qnW hw (h4 b hb)
theorem qqR (b:Bool):decide (V.str (Str.ofString (if b=true then "yes" else "no"))=V.str (Str.ofString "yes"))=b:=by
 cases b with
 | true=>exact decide_eq_true rfl
 | false=>exact decide_eq_false λe=>absurd (V.str.inj e) (by decide +kernel)
def qg6 (cD:Addr):Sp:=sp3 λx y z H Q=>∃(d pk p:Addr) (ws:List Str) (m:List (Str×List Nat)) (A:List Nat) (a:Nat),x = .ref d/\y = .ref p/\z = .int (a:Nat)/\qda cD H d pk ws m/\H p=some (.lst (sV ws))/\m.lookup ("a" : Str)=some A/\a<2^ws.length/\∀H',qar H H'->Q (.bl (Fam.sayP A a)) H'
theorem qhs {f:Addr}{fd:FuncData}(F:Fun K "_law_says" "_law_says" qdt f fd)(T:Txt mg){cD aW:Addr}(Z:Xt P w K mg cD aW){f_51:Addr}{fd_51:FuncData}(C_51:qeQ P w K mg base cD "say" 11 ["self", "row"] (qmx cD) f_51 fd_51){f_06:Addr}{fd_06:FuncData}(C_06:Cal P w K mg base "_law_set_text" 1 ["_law_words_here", "_law_one"] (qix K) f_06 fd_06):qaM P w K mg base CX0 12 f fd ["_law_desk", "_law_words_here", "_law_one"] (qg6 cD):=by
 have sc:=qeH;refine F.ok qeH (λvs H Q E h=>by obtain⟨_,_,_,rfl,_⟩:=h;rfl) (λcdv A outer s H vs Q E hr h=>?_);obtain⟨x0,x1,x2,rfl,h⟩:=h;refine⟨_,(qad (qah (qec (qav (K:=K) rfl hr.units0) (qbF (pv 0) Z.cl C_51 hr (by decide) (qaa (qan qbG qaq (pec C_06 hr (qaa (pv 1) (qaa (pv 2) qac)))) qac)) qaq (qao _)))),?_⟩;refine rdg (σ':=[some x0,some x1,some x2]) rfl ?_;obtain⟨d,pk,p,ws,m,A,a,rfl,rfl,rfl,D,f1,hA,ha,q⟩:=h;walk_at "rd";have hw:=D.wd;have hA':=D.fm _ _ hA;obtain⟨dx,pw,o1,_⟩:=D.ob;have l7:(Str.ofString "says a ").length=7:=by decide +kernel
 have zz:100000<=sizeLine:=by decide
 have lsT:=Tx.sT_len hw ha;refine⟨dx,_,o1,qcs _ _ (by decide +kernel) (by decide +kernel),_,_,rfl,p,ws,a,rfl,f1,hw,rfl,ha,λH1 s1=>⟨_,rfl,by omega,_,_,rfl,d,pk,ws,m,_, "says",["a",Tx.sT ws a],["family", "set"],[.fm A,.nu a],rfl,D.same s1,rfl,qqV hw ha (by decide +kernel) (by decide +kernel) (by decide +kernel) (by decide +kernel) (by decide +kernel),qnk.cons (.fam hA) (qj3 (.set ha)),.inr ⟨"family",_,rfl,by decide +kernel,.says hA' ha,λt H2 ht s2=>?_⟩⟩⟩;subst ht;refine⟨_,.inl ⟨rfl,rfl⟩,?_⟩;rw[qqR];exact q _ (s1.trans s2)
abbrev qb5:Stmt:=top 95
theorem qc2:qal ["_law_desk", "_law_words_here", "_law_parts", "_law_numbers", "_law_weights_here", "_law_one", "_law_total"] ["_law_desk", "_law_words_here", "_law_parts"] (qaf qb5):=fsc
def qps (cD:Addr):Sp:=sp3 λx y z H Q=>∃(d pk p pt:Addr) (ws:List Str) (m:List (Str×List Nat)) (A N:List Nat) (b:Nat),x = .ref d/\y = .ref p/\z = .ref pt/\qda cD H d pk ws m/\H p=some (.lst (sV ws))/\m.lookup ("a" : Str)=some A/\H pt=some (.lst (sV ((N++[b]).map qkH)))/\N.length=ws.length/\(∀n∈N,n<=256)/\b<=256/\(∀s,s<2^ws.length->Fam.sayP A s=decide (b<=Fam.wt N s))/\∀H',qar H H'->Q (.bl true) H'
theorem qfT {f:Addr}{fd:FuncData}(F:Fun K "_law_weights" "_law_weights" qb5 f fd)(T:Txt mg){cD aW:Addr}(Z:Xt P w K mg cD aW){f_40:Addr}{fd_40:FuncData}(C_40:Cal P w K mg base "_law_says" 12 ["_law_desk", "_law_words_here", "_law_one"] (qg6 cD) f_40 fd_40):qaM P w K mg base CX0 13 f fd ["_law_desk", "_law_words_here", "_law_parts"] (qps cD):=by
 have sc:=qc2;refine F.ok qc2 (λvs H Q E h=>by obtain⟨_,_,_,rfl,_⟩:=h;rfl) (λcdv A outer s H vs Q E hr h=>?_);obtain⟨x0,x1,x2,rfl,h⟩:=h
 refine⟨_,(qab (qbs (i:=3) sc.nd rfl rfl (by rfl) (N:=["_law_part"]) (nt:=1) (caps:=[]) qax rfl (qaE (pv 2)) (λ_ _ _ _ _=>(qam (i:=0) (show List.Nodup (α:=Str) ["_law_part"] from by decide +kernel) rfl (Or.inl rfl))) qaz (λ_ _ _ _ _=>qaD) (λ_ _ _ _ _=>(qba qdJ (by rfl) T.n_int PyProof.Rows.boot_int (qaa (pv 0) qac))))
   (qab (qat (i:=4) sc.nd rfl (Or.inr rfl) (qaS (qkF (K:=K) rfl) (pv 3) qbm (qa7 (qas (qaB (K:=K) rfl) (by rfl) T.n_len PySem.boot_len (qaa (pv 1) qac)))))
   (qab (qaA (PW.pt (qf7 (qai (qbW (K:=K) rfl hr.units0) (qas (qaB (K:=K) rfl) (by rfl) T.n_len PySem.boot_len (qaa (pv 3) qac)) (qan qbf (qas (qaB (K:=K) rfl) (by rfl) T.n_len PySem.boot_len (qaa (pv 1) qac)) qae) (qao _)) (qdd (qai (qbW (K:=K) rfl hr.units0) (qaH (N:=["_law_weight"]) (nt:=1) (caps:=[]) qax rfl (qaE (pv 4)) (λ_ _ _ _ _=>(qam (i:=0) (show List.Nodup (α:=Str) ["_law_weight"] from by decide +kernel) rfl (Or.inl rfl))) qaz (λ_ _ _ _ _=>(qb6 (qai qoA (pv 0) qae (qao _)))) (λ_ _ _ _ _=>(pv 0))) (qaJ qac) (qao _))))) (qad (qah qbg)) qak)
   (qab (qaZ PassesOwn.never rfl (qaG (by rfl) T.n_range (qaa (qan qa0 qae (qas (qaB (K:=K) rfl) (by rfl) T.n_len PySem.boot_len (qaa (pv 1) qac))) qac)) (qam (i:=5) sc.nd rfl (Or.inr rfl)) (qab (qat (i:=6) sc.nd rfl (Or.inl rfl) (qas (qch (K:=K) rfl rfl) (by rfl) T.n_sum PyProof.Rows.boot_sum (qaa (qaH (N:=["_law_k", "_law_weights_here", "_law_one"]) (nt:=1) (caps:=[4,5]) qax rfl (qaG (by rfl) T.n_range (qaa (qas (qaB (K:=K) rfl) (by rfl) T.n_len PySem.boot_len (qaa (pv 1) qac)) qac)) (λ_ _ _ _ _=>(qam (i:=0) (show List.Nodup (α:=Str) ["_law_k", "_law_weights_here", "_law_one"] from by decide +kernel) rfl (Or.inl rfl))) qaz (λ_ _ _ _ _=>(qb6 (qai (qav (K:=K) rfl hr.units0) (qan qce (qan qeL (pv 2) (pv 0)) qae) qae (qao _)))) (λ_ _ _ _ _=>(qaw (qaO (K:=K) rfl) (pv 1) (pv 0) (λ_ _=>rfl)))) qac)))
   (qad (qaA (qai (qbW (K:=K) rfl hr.units0) (qec qnR (pv 6) (qaw (qaO (K:=K) rfl) (pv 3) (qas (qaB (K:=K) rfl) (by rfl) T.n_len PySem.boot_len (qaa (pv 1) qac)) (λ_ _=>rfl)) (qao _)) (pec C_40 hr (qaa (pv 0) (qaa (pv 1) (qaa (pv 5) qac)))) (qao _)) (qad (qah qbg)) qak))))
   (qad (qah qbg)))))),?_⟩
 refine rdg (σ':=[some x0,some x1,some x2,none,none,none,none]) rfl ?_;obtain⟨d,pk,p,pt,ws,m,A,N,b,rfl,rfl,rfl,D,f1,hA,fP,lN,hn,hb,hf,q⟩:=h;have hw:=D.wd;have h8:=hw.few;have hA':=D.fm _ _ hA;walk_at "rd";refine⟨⟨_,SqL.of fP⟩,qfL (xs:=sV ((N++[b]).map qkH)) (λi ys H3=>qar H H3/\ys=nV ((N++[b]).take i)) ⟨qar.refl _,rfl⟩ (by rw[qaI,ycd];exact qau (by simp;omega)) (λi ys H3 hi ⟨s,e⟩=>⟨SqL.of (s _ _ fP),by rw[e,qaP,yfb];omega⟩) (λi x ys H3 hx ⟨s3,e3⟩ R R' r1 r2=>?_) λys H3 ⟨s3,e3⟩ p3 hp3=>?_⟩
 . rw[ycp,ycp] at hx
   cases en:(N++[b])[i]? with
   | none=>rw[en] at hx;cases hx
   | some n =>
     rw[en] at hx;cases hx
     (try walk_at "rd")
     refine⟨n,rfl,ybn (qhj hn hb n (ycl en)) (by decide),r1 _ _ ⟨s3,?_⟩⟩;rw[e3,ygq,en];simp[nV,nI]
 rw[qaI,ycd,ydi] at e3;subst e3;generalize g3:upd H3 p3 _=G3;have a3:=qap g3;have s3:=s3.trans (qaj g3 hp3)
 (try walk_at "rd")
 have pp:=yah ws.length;have p8:2^ws.length<=256:=yaf (n:=2) (by decide) h8;refine⟨_,.inl (SqL.of (s3 _ _ f1)),?_⟩;rw[qaI];refine⟨p3,_,rfl,SqL.of a3,λp4 hp4=>?_⟩;rw[qeZ,show(nV (N++[b])).take ws.length=nV N by rw[<-lN];simp[nV,nI]];generalize g4:upd G3 p4 _=G4;have a4:=qap g4;have t4:=qaj g4 hp4;have a3:=t4 _ _ a3;have s4:=s3.trans t4;refine⟨_,.inl (SqL.of a3),_,.inl (SqL.of (s4 _ _ f1)),false,by rw[qaP,qaI,ydq,lN];simp,?_⟩;rw[if_neg (by decide)];refine⟨p4,rfl,⟨_,SqL.of a4⟩,qbv (fs:=N) (λ_=>false) (λn => .int (n:Nat)) (SqL.of a4) (by omega) (λn hm H5 s5 R R' r1 r2=>?_) λH5 p5 s5 hp5=>?_⟩
 . (try walk_at "rd")
   rw[if_neg (by omega)];exact r2 rfl _ (qar.refl _)
 rw[show(N.filter λ_=>false).map (λn=>V.int (n:Nat))=[] by simp];generalize g5:upd H5 p5 _=G5;have a5:=qap g5;have s5:=s5.trans (qaj g5 hp5);refine⟨qau (by simp),λp6 hp6=>qqH (SqL.of (qar.new hp6 _ _ a5)) (SqL.of qag) rfl rfl ⟨false,rfl,qcA ?_⟩⟩;generalize g6:upd G5 p6 _=G6;have t6:=s5.trans (qaj g6 hp6);have s6:=s4.trans t6;have a3:=t6 _ _ a3;have a4:=t6 _ _ a4;have f6:=s6 _ _ f1;have D6:=D.same s6;refine⟨_,.inl (SqL.of f6),?_⟩;rw[qaI,qaQ];refine⟨qaK (by omega) (by omega) (by decide) (by decide),by omega,by omega,?_⟩;rw[yfg];refine qeM (λi σ H'=>∃v w,σ=[some (.ref d),some (.ref p),some (.ref pt),some (.ref p3),some (.ref p4),v,w]/\qar G6 H') ⟨none,none,rfl,qar.refl _⟩ ?_ ?_
 . rintro i σ H7 hi ⟨v,w,rfl,s7⟩ N' hN
   have f7:=s7 _ _ f6
   (try walk_at "rd")
   refine⟨_,.inl (SqL.of f7),?_⟩;rw[qaI];refine⟨by omega,by omega,?_⟩;rw[yfg];refine qcQ (λk=>i.testBit k) (λk => .int (N.getD k 0:Nat)) (by omega) (λk hk H8 s8 R R' r1 r2=>?_) λH8 p8 s8 hp8=>?_
   . (try walk_at "rd")
     refine⟨by omega,qfM qdx (λhc=>?_) λhc=>r2 hc _ (qar.refl _)⟩;have e:N[k]?=some (N.getD k 0):=by rw[ycj,yck (by omega)];rfl
     exact qaF (SqL.of (s8 _ _ (s7 _ _ a4))) (qd1 e) (r1 hc _ (qar.refl _))
   have e:((List.range ws.length).filter λk=>i.testBit k).map (λk=>V.int (N.getD k 0:Nat))=nV ((Fam.nms 8 i).map λk=>N.getD k 0):=by
     rw[show((List.range ws.length).filter λk=>i.testBit k)=Fam.nms 8 i from qkU (by omega) hi];simp
   rw[e];generalize g8:upd H8 p8 _=G8;have a8:=qap g8;have s8:=s7.trans (s8.trans (qaj g8 hp8));refine⟨p8,rfl,nI ((Fam.nms 8 i).map λk=>N.getD k 0),SqL.of a8,?_⟩;rw[qha,show((Fam.nms 8 i).map λk=>N.getD k 0).sum=Fam.wt N i from rfl]
   (try walk_at "rd")
   refine⟨_,.inl (SqL.of (s8 _ _ f6)),?_⟩;rw[qaI];refine qaF (SqL.of (s8 _ _ a3)) (qd1 (show(N++[b])[ws.length]?=some b by rw[<-lN];simp)) ?_
   (try walk_at "rd")
   refine⟨_,_,_,rfl,d,pk,p,ws,m,A,i,rfl,rfl,rfl,D6.same s8,s8 _ _ f6,hA,hi,λH9 s9=>?_⟩;rw[hf i hi];show qni K (V.bl (decide ((b:Int)<=((Fam.wt N i:Nat):Int)))) (V.bl (decide (b<=Fam.wt N i))) H9 _;rw[show decide ((b:Int)<=((Fam.wt N i:Nat):Int))=decide (b<=Fam.wt N i) from decide_eq_decide.mpr (by omega)]
   (try walk_at "rd")
   exact⟨false,by simp,qcA (hN _ _ ⟨_,_,rfl,s8.trans s9⟩)⟩
 . rintro σ H7 ⟨v,w,rfl,s7⟩
   (try walk_at "rd")
   exact q _ (s6.trans s7)
abbrev qcX:Stmt:=top 96
theorem qdV:qal ["_law_desk", "_law_words_here", "_law_parts", "_law_cut", "_law_yes", "_law_no", "_law_k"] ["_law_desk", "_law_words_here", "_law_parts"] (qaf qcX):=fsc
theorem qnm {m:Nat}{f:Nat->Bool}{x y s u:Nat}(hx:x<m)(hy:y<m)(h1:Fam.part m f x y=some s)(h2:Fam.part m f y x=some u):(s|||2^x<2^m/\f (s|||2^x)=true)/\(u|||2^y<2^m/\f (u|||2^y)=true)/\(s|||2^y<2^m/\f (s|||2^y)=false)/\(u|||2^x<2^m/\f (u|||2^x)=false):=by
 obtain⟨a1,a2,a3,a4,a5⟩:=Fam.part_some h1;obtain⟨b1,b2,b3,b4,b5⟩:=Fam.part_some h2;have px:2^x<2^m:=ybs (by decide) hx;have py:2^y<2^m:=ybs (by decide) hy;exact⟨⟨ybr a1 px,a4⟩,⟨ybr b1 py,b4⟩,⟨ybr a1 py,a5⟩,⟨ybr b1 px,b5⟩⟩
theorem qkR {m:Nat}{f:Nat->Bool}{x y s u:Nat}(hxy:x≠y)(h1:Fam.part m f x y=some s)(h2:Fam.part m f y x=some u){ys ns:List Nat}(q1:ys.Perm [s|||2^x,u|||2^y])(q2:ns.Perm [s|||2^y,u|||2^x])(k:Nat):(ys.filter λs=>s.testBit k).length=(ns.filter λs=>s.testBit k).length:=by
 obtain⟨a1,a2,a3,a4,a5⟩:=Fam.part_some h1;obtain⟨b1,b2,b3,b4,b5⟩:=Fam.part_some h2;rw[(q1.filter _).length_eq,(q2.filter _).length_eq]
 have e:∀a b:Nat,([a,b].filter λs=>s.testBit k).length=(if a.testBit k=true then 1 else 0)+(if b.testBit k=true then 1 else 0):=λa b=>by
  cases h:a.testBit k<;>cases h':b.testBit k<;>simp[h,h']
 rw[e,e,Fam.or_bit,Fam.or_bit,Fam.or_bit,Fam.or_bit];by_cases c:x=k
 .subst c
  simp[a2,b3,Ne.symm hxy]
 by_cases d:y=k
 .subst d
  simp[a3,b2,c]
 simp[c,d]
theorem qjr {ws:List Str}(hw:Tx.Wds ws){a:Nat}(ha:a<2^ws.length):Tx.sT ws a≠("/" : Str):=λe=>by
 have es:=Tx.split_sT hw ha;rw[e,show _root_.PySem.Txt.split ("/" : Str) "+" = [("/" : Str)] by decide +kernel] at es;by_cases h0:a=0
 .rw[if_pos h0] at es
  exact absurd es (by decide +kernel)
 .rw[if_neg h0] at es
  have hm:=hw.wd "/" (Tx.wds_mem hw ha (by rw[<-es];exact ybd));exact absurd (hm.2.2 47 (by decide +kernel)) (by decide)
theorem qqm {y1 y2 n1 n2 k:Nat}(h:([y1,y2].filter λs=>s.testBit k).length=([n1,n2].filter λs=>s.testBit k).length):[if y1.testBit k=true then (1:Int) else 0,if y2.testBit k=true then (1:Int) else 0].sum=[if n1.testBit k=true then (1:Int) else 0,if n2.testBit k=true then (1:Int) else 0].sum:=by
 cases h1:y1.testBit k<;>cases h2:y2.testBit k<;>cases h3:n1.testBit k<;>cases h4:n2.testBit k<;>simp_all
def qsG (cD:Addr):Sp:=sp3 λx y z H Q=>∃(d pk p pt:Addr) (ws:List Str) (m:List (Str×List Nat)) (A ys ns:List Nat),x = .ref d/\y = .ref p/\z = .ref pt/\qda cD H d pk ws m/\H p=some (.lst (sV ws))/\m.lookup ("a" : Str)=some A/\H pt=some (.lst (sV ((ys.map (Tx.sT ws)++[("/" : Str)])++ns.map (Tx.sT ws))))/\ys.length=2/\ns.length=2/\(∀s∈ys,s<2^ws.length/\Fam.sayP A s=true)/\(∀s∈ns,s<2^ws.length/\Fam.sayP A s=false)/\(∀k,(ys.filter λs=>s.testBit k).length=(ns.filter λs=>s.testBit k).length)/\∀H',qar H H'->Q (.bl true) H'
theorem qg2 {f:Addr}{fd:FuncData}(F:Fun K "_law_trade" "_law_trade" qcX f fd)(T:Txt mg){cD aW:Addr}(Z:Xt P w K mg cD aW){f_42:Addr}{fd_42:FuncData}(C_42:Cal P w K mg base "_law_set" 1 ["_law_words_here", "_law_text_here"] (qm2 K) f_42 fd_42){f_40:Addr}{fd_40:FuncData}(C_40:Cal P w K mg base "_law_says" 12 ["_law_desk", "_law_words_here", "_law_one"] (qg6 cD) f_40 fd_40):qaM P w K mg base CX0 13 f fd ["_law_desk", "_law_words_here", "_law_parts"] (qsG cD):=by
 have sc:=qdV;refine F.ok qdV (λvs H Q E h=>by obtain⟨_,_,_,rfl,_⟩:=h;rfl) (λcdv A outer s H vs Q E hr h=>?_);obtain⟨x0,x1,x2,rfl,h⟩:=h
 refine⟨_,(qab (qaA (qai (qiq (K:=K) rfl) qaq (pv 2) (by with_unfolding_all rfl)) (qad (qah qbg)) qak)
   (qab (qat (i:=3) sc.nd rfl (Or.inl rfl) (qcY (K:=K) rfl ygw ygp yhj qbi (pv 2) (qaa qaq qac)))
   (qab (qbs (i:=4) sc.nd rfl rfl (by rfl) (N:=["_law_part", "_law_words_here"]) (nt:=1) (caps:=[1]) qax rfl (qaE (qaS (qkF (K:=K) rfl) (pv 2) qbm (qa7 (pv 3)))) (λ_ _ _ _ _=>(qam (i:=0) (show List.Nodup (α:=Str) ["_law_part", "_law_words_here"] from by decide +kernel) rfl (Or.inl rfl))) qaz (λ_ _ _ _ _=>qaD) (λ_ _ _ _ _=>(pec C_42 hr (qaa (pv 1) (qaa (pv 0) qac)))))
   (qab (qbs (i:=5) sc.nd rfl rfl (by rfl) (N:=["_law_part", "_law_words_here"]) (nt:=1) (caps:=[1]) qax rfl (qaE (qaS (qkF (K:=K) rfl) (pv 2) (qa7 (qan qbf (pv 3) qae)) qbm)) (λ_ _ _ _ _=>(qam (i:=0) (show List.Nodup (α:=Str) ["_law_part", "_law_words_here"] from by decide +kernel) rfl (Or.inl rfl))) qaz (λ_ _ _ _ _=>qaD) (λ_ _ _ _ _=>(pec C_42 hr (qaa (pv 1) (qaa (pv 0) qac)))))
   (qab (qaA (PW.pt (qf7 (qai (qav (K:=K) rfl hr.units0) (pv 4) (qaJ qac) (qao _)) (qdd (qai (qbW (K:=K) rfl hr.units0) (qas (qaB (K:=K) rfl) (by rfl) T.n_len PySem.boot_len (qaa (pv 4) qac)) (qas (qaB (K:=K) rfl) (by rfl) T.n_len PySem.boot_len (qaa (pv 5) qac)) (qao _))))) (qad (qah qbg)) qak)
   (qab (qaA (PW.pt (qf7 (qai (qlk (K:=K) rfl) qbg (qaH (N:=["_law_one", "_law_desk", "_law_words_here"]) (nt:=1) (caps:=[0,1]) qax rfl (qaE (pv 4)) (λ_ _ _ _ _=>(qam (i:=0) (show List.Nodup (α:=Str) ["_law_one", "_law_desk", "_law_words_here"] from by decide +kernel) rfl (Or.inl rfl))) qaz (λ_ _ _ _ _=>qaD) (λ_ _ _ _ _=>(pec C_40 hr (qaa (pv 1) (qaa (pv 2) (qaa (pv 0) qac)))))) (by with_unfolding_all rfl)) (qdd (qai (qlk (K:=K) rfl) qbg (qaH (N:=["_law_one", "_law_desk", "_law_words_here"]) (nt:=1) (caps:=[0,1]) qax rfl (qaE (pv 5)) (λ_ _ _ _ _=>(qam (i:=0) (show List.Nodup (α:=Str) ["_law_one", "_law_desk", "_law_words_here"] from by decide +kernel) rfl (Or.inl rfl))) qaz (λ_ _ _ _ _=>qaD) (λ_ _ _ _ _=>(pec C_40 hr (qaa (pv 1) (qaa (pv 2) (qaa (pv 0) qac)))))) (by with_unfolding_all rfl))))) (qad (qah qbg)) qak)
   (qab (qaZ PassesOwn.never rfl (qaG (by rfl) T.n_range (qaa (qas (qaB (K:=K) rfl) (by rfl) T.n_len PySem.boot_len (qaa (pv 1) qac)) qac)) (qam (i:=6) sc.nd rfl (Or.inr rfl)) (qad (qaA (qai (qbW (K:=K) rfl hr.units0) (qas (qch (K:=K) rfl rfl) (by rfl) T.n_sum PyProof.Rows.boot_sum (qaa (qaH (N:=["_law_one", "_law_k"]) (nt:=1) (caps:=[6]) qax rfl (qaE (pv 4)) (λ_ _ _ _ _=>(qam (i:=0) (show List.Nodup (α:=Str) ["_law_one", "_law_k"] from by decide +kernel) rfl (Or.inl rfl))) qaz (λ_ _ _ _ _=>qaD) (λ_ _ _ _ _=>(qan qce (qan qeL (pv 0) (pv 1)) qae))) qac)) (qas (qch (K:=K) rfl rfl) (by rfl) T.n_sum PyProof.Rows.boot_sum (qaa (qaH (N:=["_law_one", "_law_k"]) (nt:=1) (caps:=[6]) qax rfl (qaE (pv 5)) (λ_ _ _ _ _=>(qam (i:=0) (show List.Nodup (α:=Str) ["_law_one", "_law_k"] from by decide +kernel) rfl (Or.inl rfl))) qaz (λ_ _ _ _ _=>qaD) (λ_ _ _ _ _=>(qan qce (qan qeL (pv 0) (pv 1)) qae))) qac)) (qao _)) (qad (qah qbg)) qak)))
   (qad (qah qbg))))))))),?_⟩
 refine rdg (σ':=[some x0,some x1,some x2,none,none,none,none]) rfl ?_;obtain⟨d,pk,p,pt,ws,m,A,ys,ns,rfl,rfl,rfl,D,f1,hA,fP,ly,ln,hy,hn,hc,q⟩:=h
 obtain⟨y1,y2,rfl⟩:∃y1 y2,ys=[y1,y2]:=by
   match ys,ly with
   | [a,b],_=>exact⟨a,b,rfl⟩
 obtain⟨n1,n2,rfl⟩:∃n1 n2,ns=[n1,n2]:=by
   match ns,ln with
   | [a,b],_=>exact⟨a,b,rfl⟩
 have hw:=D.wd;have h8:=hw.few;have fP:H pt=some (.lst (sV [Tx.sT ws y1,Tx.sT ws y2,("/" : Str),Tx.sT ws n1,Tx.sT ws n2])):=fP
 have ix:List.idxOf ("/" : Str) [Tx.sT ws y1,Tx.sT ws y2,("/" : Str),Tx.sT ws n1,Tx.sT ws n2]=2:=by
   rw[ygo,ygo,ygo,beq_eq_false_iff_ne.mpr (qjr hw (hy y1 (by simp)).1),beq_eq_false_iff_ne.mpr (qjr hw (hy y2 (by simp)).1),beq_self_eq_true];rfl
 walk_at "rd";refine⟨_,.inl (SqL.of fP),rfl,qbT _,false,by rw[qqM];simp,?_⟩;rw[if_neg (by decide)];refine⟨qaX fP,pt,_,_,rfl,rfl,fP,by simp,by simp,?_⟩;rw[show List.idxOf (Str.ofString "/") [Tx.sT ws y1,Tx.sT ws y2,("/" : Str),Tx.sT ws n1,Tx.sT ws n2]=2 from ix]
 (try walk_at "rd")
 refine⟨pt,_,rfl,SqL.of fP,λq1 hq1=>?_⟩;rw[qeZ,show(sV [Tx.sT ws y1,Tx.sT ws y2,("/" : Str),Tx.sT ws n1,Tx.sT ws n2]).take 2=[y1,y2].map λa=>V.str (Tx.sT ws a) from rfl];generalize g1:upd H q1 _=G1;have c1:=qap g1;have w1:=qaj g1 hq1;refine⟨q1,rfl,⟨_,SqL.of c1⟩,ql0 (ks:=[y1,y2]) (λa=>V.str (Tx.sT ws a)) (λa => .int (a:Nat)) c1 (by simp) (λa ha H2 s2 R R' r1=>?_) λH2 q2 s2 hq2=>?_⟩
 . (try walk_at "rd")
   exact⟨_,_,rfl,p,ws,a,rfl,s2 _ _ (w1 _ _ f1),hw,rfl,(hy a ha).1,λH3 s3=>r1 _ s3⟩
 generalize g2:upd H2 q2 _=G2;have c2:G2 q2=some (.lst (nV [y1,y2])):=qap g2;have w2:=(w1.trans s2).trans (qaj g2 hq2)
 (try walk_at "rd")
 refine⟨pt,_,rfl,SqL.of (w2 _ _ fP),λq3 hq3=>?_⟩;rw[show((2:Nat):Int)+1=((3:Nat):Int) from rfl,qbY,show(sV [Tx.sT ws y1,Tx.sT ws y2,("/" : Str),Tx.sT ws n1,Tx.sT ws n2]).drop 3=[n1,n2].map λa=>V.str (Tx.sT ws a) from rfl];generalize g3:upd G2 q3 _=G3;have c3:=qap g3;have w3:=w2.trans (qaj g3 hq3);have c2:=qaj g3 hq3 _ _ c2;refine⟨q3,rfl,⟨_,SqL.of c3⟩,ql0 (ks:=[n1,n2]) (λa=>V.str (Tx.sT ws a)) (λa => .int (a:Nat)) c3 (by simp) (λa ha H4 s4 R R' r1=>?_) λH4 q4 s4 hq4=>?_⟩
 . (try walk_at "rd")
   exact⟨_,_,rfl,p,ws,a,rfl,s4 _ _ (w3 _ _ f1),hw,rfl,(hn a ha).1,λH3 s3=>r1 _ s3⟩
 generalize g4:upd H4 q4 _=G4;have c4:G4 q4=some (.lst (nV [n1,n2])):=qap g4;have t4:=s4.trans (qaj g4 hq4);have w4:=w3.trans t4;have c2:=t4 _ _ c2
 (try walk_at "rd")
 refine⟨qau (by simp),λq5 hq5=>qgO (SqL.of (qar.new hq5 _ _ c2)) (SqL.of qag) (qie _) rfl ⟨false,rfl,qcA ?_⟩⟩;generalize g5:upd G4 q5 _=G5;have t5:=qaj g5 hq5;have c2:=t5 _ _ c2;have c4:=t5 _ _ c4;have w5:=w4.trans t5;refine⟨_,.inl (SqL.of c2),_,.inl (SqL.of c4),false,rfl,?_⟩;rw[if_neg (by decide)];have D5:=D.same w5;have f5:=w5 _ _ f1;refine⟨⟨_,SqL.of c2⟩,qbv (fs:=[y1,y2]) (λ_=>true) (λa => .bl (Fam.sayP A a)) (SqL.of c2) (by simp) (λa ha H6 s6 R R' r1 r2=>?_) λH6 q6 s6 hq6=>?_⟩
 . (try walk_at "rd")
   exact⟨_,_,_,rfl,d,pk,p,ws,m,A,a,rfl,rfl,rfl,D5.same s6,s6 _ _ f5,hA,(hy a ha).1,λH7 s7=>r1 rfl _ s7⟩
 generalize g6:upd H6 q6 _=G6
 have c6:G6 q6=some (.lst [.bl true,.bl true]):=by
   have:=qap g6;rw[this];simp[(hy y1 (by simp)).2,(hy y2 (by simp)).2]
 have w6:=s6.trans (qaj g6 hq6);refine⟨q6,rfl,_,.inl (SqL.of c6),rfl,rfl,?_⟩;rw[if_neg (by decide)];have c4:=w6 _ _ c4;have c2:=w6 _ _ c2;refine⟨⟨_,SqL.of c4⟩,qbv (fs:=[n1,n2]) (λ_=>true) (λa => .bl (Fam.sayP A a)) (SqL.of c4) (by simp) (λa ha H7 s7 R R' r1 r2=>?_) λH7 q7 s7 hq7=>?_⟩
 . (try walk_at "rd")
   exact⟨_,_,_,rfl,d,pk,p,ws,m,A,a,rfl,rfl,rfl,D5.same (w6.trans s7),s7 _ _ (w6 _ _ f5),hA,(hn a ha).1,λH7 s7=>r1 rfl _ s7⟩
 generalize g7:upd H7 q7 _=G7
 have c7:G7 q7=some (.lst [.bl false,.bl false]):=by
   have:=qap g7;rw[this];simp[(hn n1 (by simp)).2,(hn n2 (by simp)).2]
 have t7:=s7.trans (qaj g7 hq7);have w7:=(w5.trans w6).trans t7;have c2:=t7 _ _ c2;have c4:=t7 _ _ c4;refine⟨q7,rfl,_,.inl (SqL.of c7),rfl,rfl,?_⟩;rw[if_neg (by decide)];have f7:=w7 _ _ f1;refine⟨_,.inl (SqL.of f7),?_⟩;rw[qaI];refine⟨by omega,by omega,?_⟩;rw[yfg];refine qeM (λi σ H'=>∃v,σ=[some (.ref d),some (.ref p),some (.ref pt),some (.int ((2:Nat):Int)),some (.ref q2),some (.ref q4),v]/\qar G7 H') ⟨none,rfl,qar.refl _⟩ ?_ ?_
 . rintro k σ H8 hk ⟨v,rfl,s8⟩ N hN
   (try walk_at "rd")
   refine⟨⟨_,SqL.of (s8 _ _ c2)⟩,qbv (fs:=[y1,y2]) (λ_=>true) (λa => .int (if a.testBit k=true then 1 else 0)) (SqL.of (s8 _ _ c2)) (by simp) (λa ha H9 s9 R R' r1 r2=>?_) λH9 q9 s9 hq9=>?_⟩
   . (try walk_at "rd")
     rw[qi4];exact⟨by omega,r1 rfl _ (qar.refl _)⟩
   generalize g9:upd H9 q9 _=G9;have c9:G9 q9=some (.lst ([if y1.testBit k=true then (1:Int) else 0,if y2.testBit k=true then (1:Int) else 0].map V.int)):=qap g9;have w9:=s8.trans (s9.trans (qaj g9 hq9));refine⟨q9,rfl,_,SqL.of c9,⟨_,SqL.of (w9 _ _ c4)⟩,qbv (fs:=[n1,n2]) (λ_=>true) (λa => .int (if a.testBit k=true then 1 else 0)) (SqL.of (w9 _ _ c4)) (by simp) (λa ha H10 s10 R R' r1 r2=>?_) λH10 q10 s10 hq10=>?_⟩
   . (try walk_at "rd")
     rw[qi4];exact⟨by omega,r1 rfl _ (qar.refl _)⟩
   generalize g10:upd H10 q10 _=G10;have c10:G10 q10=some (.lst ([if n1.testBit k=true then (1:Int) else 0,if n2.testBit k=true then (1:Int) else 0].map V.int)):=qap g10;refine⟨q10,rfl,_,SqL.of c10,false,by rw[decide_eq_true (qqm (hc k))];rfl,qcA (hN _ _ ⟨_,rfl,w9.trans (s10.trans (qaj g10 hq10))⟩)⟩
 . rintro σ H8 ⟨v,rfl,s8⟩
   (try walk_at "rd")
   exact q _ (w7.trans s8)
abbrev qcW:Stmt:=top 97
theorem qd3:qal ["_law_desk", "_law_words_here", "_law_x", "_law_y", "_law_parts", "_law_text_here", "_law_more", "_law_less", "_law_one"] ["_law_desk", "_law_words_here", "_law_x", "_law_y"] (qaf qcW):=fsc
def qrC (cD:Addr):Sp:=sp4 λx y z u H Q=>∃(d pk p:Addr) (ws:List Str) (m:List (Str×List Nat)) (A:List Nat) (i j s t:Nat),x = .ref d/\y = .ref p/\z = .str (ws.getD i Str.empty)/\u = .str (ws.getD j Str.empty)/\qda cD H d pk ws m/\H p=some (.lst (sV ws))/\m.lookup ("a" : Str)=some A/\i<j/\j<ws.length/\Fam.part ws.length (Fam.sayP A) i j=some s/\Fam.part ws.length (Fam.sayP A) j i=some t/\∀H',qar H H'->Q (.bl true) H'
theorem qhk {f:Addr}{fd:FuncData}(F:Fun K "_law_apart" "_law_apart" qcW f fd)(T:Txt mg){cD aW:Addr}(Z:Xt P w K mg cD aW){f_42:Addr}{fd_42:FuncData}(C_42:Cal P w K mg base "_law_set" 1 ["_law_words_here", "_law_text_here"] (qm2 K) f_42 fd_42){f_40:Addr}{fd_40:FuncData}(C_40:Cal P w K mg base "_law_says" 12 ["_law_desk", "_law_words_here", "_law_one"] (qg6 cD) f_40 fd_40){f_51:Addr}{fd_51:FuncData}(C_51:qeQ P w K mg base cD "say" 11 ["self", "row"] (qmx cD) f_51 fd_51):qaM P w K mg base CX0 13 f fd ["_law_desk", "_law_words_here", "_law_x", "_law_y"] (qrC cD):=by
 have sc:=qd3;refine F.ok qd3 (λvs H Q E h=>by obtain⟨_,_,_,_,rfl,_⟩:=h;rfl) (λcdv A outer s H vs Q E hr h=>?_);obtain⟨x0,x1,x2,x3,rfl,h⟩:=h
 refine⟨_,(qab (qat (i:=4) sc.nd rfl (Or.inl rfl) (qbj yhe yhh yhi qbE (qbF (pv 0) Z.cl C_51 hr (by decide) (qaa (qan qbG (qan qbG (qan qbG qaq (pv 2)) qaq) (pv 3)) qac)) (qaa qaq qac)))
   (qab (qaA (PW.pt (qf7 (qai (qbW (K:=K) rfl hr.units0) (qaw (qaO (K:=K) rfl) (pv 4) qae (λ_ _=>rfl)) qaq (qao _)) (qdd (qai (qbW (K:=K) rfl hr.units0) (qas (qaB (K:=K) rfl) (by rfl) T.n_len PySem.boot_len (qaa (pv 4) qac)) qae (qao _))))) (qad (qah qbg)) qak)
   (qab (qaZ PassesOwn.never rfl (qb1 (K:=K) rfl (qaJ (qaa (qb9 (qaa (qaw (qaO (K:=K) rfl) (pv 4) qae (λ_ _=>rfl)) (qaa (pv 2) (qaa (pv 3) qac)))) (qaa (qb9 (qaa (qaw (qaO (K:=K) rfl) (pv 4) qae (λ_ _=>rfl)) (qaa (pv 3) (qaa (pv 2) qac)))) qac)))) (qgq (n:=3) rfl (qa1 (qam (i:=5) sc.nd rfl (Or.inl rfl)) (qa1 (qam (i:=6) sc.nd rfl (Or.inl rfl)) (qa1 (qam (i:=7) sc.nd rfl (Or.inl rfl)) qen)))) (qab (qat (i:=8) sc.nd rfl (Or.inl rfl) (pec C_42 hr (qaa (pv 1) (qaa (pv 5) qac))))
   (qab (qaA (PW.pt (qf7 (qai (qav (K:=K) rfl hr.units0) (qan qce (qan qeL (pv 8) (qcY (K:=K) rfl ygw ygp yhj qbi (pv 1) (qaa (pv 2) qac))) qae) qae (qao _)) (qdd (qai (qav (K:=K) rfl hr.units0) (qan qce (qan qeL (pv 8) (qcY (K:=K) rfl ygw ygp yhj qbi (pv 1) (qaa (pv 3) qac))) qae) qae (qao _))))) (qad (qah qbg)) qak)
   (qab (qaA (qbD (qa9 (pec C_40 hr (qaa (pv 0) (qaa (pv 1) (qaa (qan qed (pv 8) (qan qa0 qae (qcY (K:=K) rfl ygw ygp yhj qbi (pv 1) (qaa (pv 6) qac)))) qac)))))) (qad (qah qbg)) qak)
   (qad (qaA (qa9 (pec C_40 hr (qaa (pv 0) (qaa (pv 1) (qaa (qan qed (pv 8) (qan qa0 qae (qcY (K:=K) rfl ygw ygp yhj qbi (pv 1) (qaa (pv 7) qac)))) qac))))) (qad (qah qbg)) qak))))))
   (qad (qah qbg))))),?_⟩
 refine rdg (σ':=[some x0,some x1,some x2,some x3,none,none,none,none,none]) rfl ?_;obtain⟨d,pk,p,ws,m,A,i,j,s,t,rfl,rfl,rfl,rfl,D,f1,hA,hij,hj,e1,e2,q⟩:=h;have hw:=D.wd;have h8:=hw.few;have hA':=D.fm _ _ hA;have hi:i<ws.length:=by omega
 have wi:=qku hw hi;have wj:=qku hw hj;have li:=wi.2.1;have lj:=wj.2.1;obtain⟨a1,a2,a3,a4,a5⟩:=Fam.part_some e1;obtain⟨b1,b2,b3,b4,b5⟩:=Fam.part_some e2;obtain⟨dx,pw,o1,_⟩:=D.ob;have l10:(Str.ofString "compare a ").length=10:=by decide +kernel
 have l1:(Str.ofString " ").length=1:=by decide +kernel
 have zz:100000<=sizeLine:=by decide
 have ec:qoM ws.length (Fam.sayP A) i j = .str "apart" :: nV [s,t]:=by
   unfold qoM;rw[e1,e2];rfl
 have row:Prt (Str.ofString "compare a " ++ ws.getD i Str.empty++Str.ofString " " ++ ws.getD j Str.empty) "compare" ["a",ws.getD i Str.empty,ws.getD j Str.empty] ["family", "name", "name"]:=by
   have e:Str.ofString "compare a " ++ ws.getD i Str.empty++Str.ofString " " ++ ws.getD j Str.empty=_root_.PySem.Txt.join " " [Str.ofString "compare a",ws.getD i Str.empty,ws.getD j Str.empty]:=by
     rw[qcN (z:=Str.ofString "compare a ") (by decide +kernel) (by simp),qcN (l:=[ws.getD j Str.empty]) rfl (by simp),show ∀w:Str,_root_.PySem.Txt.join " " [w]=w from λ_=>rfl];simp only[qcI]
   rw[e];exact qqx wi wj
 have gi:ws[i]?=some (ws.getD i Str.empty):=by rw[ycj,yck hi];rfl
 have gj:ws[j]?=some (ws.getD j Str.empty):=by rw[ycj,yck hj];rfl
 have xi:ws.idxOf (ws.getD i Str.empty)=i:=by rw[ycj,yck hi];exact hw.nd.idxOf_getElem i hi
 have xj:ws.idxOf (ws.getD j Str.empty)=j:=by rw[ycj,yck hj];exact hw.nd.idxOf_getElem j hj
 have mi:=ycl gi;have mj:=ycl gj
 have ti:qnk ws m ["family", "name", "name"] ["a",ws.getD i Str.empty,ws.getD j Str.empty] [.fm A,.nu i,.nu j]:=by
   have t1:Thg ws m "name" (ws.getD i Str.empty) (.nu (ws.idxOf (ws.getD i Str.empty))) := .name mi;have t2:Thg ws m "name" (ws.getD j Str.empty) (.nu (ws.idxOf (ws.getD j Str.empty))) := .name mj;rw[xi] at t1;rw[xj] at t2;exact qnk.cons (.fam hA) (qnk.cons t1 (qj3 t2))
 refine qbb (λσ' H'=>∃q1:Addr,qar H H'/\H' q1=some (.lst (sV [("apart" : Str),Tx.sT ws s,Tx.sT ws t]))/\σ'=[some (.ref d),some (.ref p),some (.str (ws.getD i Str.empty)),some (.str (ws.getD j Str.empty)),some (.ref q1),none,none,none,none]) ?_ λN hN=>?_;rotate_left
 . (try walk_at "rd")
   refine⟨dx,_,o1,qcs _ _ (by decide +kernel) (by decide +kernel),by omega,by rw[Str.length_append];omega,by rw[Str.length_append,Str.length_append];omega,_,_,rfl,d,pk,ws,m,_, "compare",_,_,_,rfl,D,rfl,row,ti,.inr ⟨"family",_,rfl,by decide +kernel,.compare hA' hi hj (by omega) ec (by decide +kernel) (by simp) (λa ha=>?_),λz H1 hz s1=>?_⟩⟩
   . simp only[ybf,ydz,or_false] at ha
     rcases ha with rfl | rfl<;>assumption
   subst hz
   have pr:Prs [("apart" : Str),Tx.sT ws s,Tx.sT ws t]:=by
     refine⟨by simp,by simp,λw hm=>?_⟩;simp only[ybf,ydz,or_false] at hm;rcases hm with rfl | rfl | rfl
     . exact⟨by decide +kernel,by decide +kernel⟩
     . exact qnW hw a1
     . exact qnW hw b1
   refine⟨rfl,_,_,rfl,rfl,by rw[Tx.lit_space];rfl,ybn pr.len (by decide),λq1 hq1=>?_⟩;rw[show _root_.PySem.Txt.split (wsT ws "apart" [s,t]) (Str.ofString " ")=_ from pr.split];exact hN _ _ ⟨q1,s1.trans (qar.new hq1),qag,rfl⟩
 rintro σ' G1 ⟨q1,w1,c1,rfl⟩;refine qbb (λσ' H'=>G1=H'/\σ'=[some (.ref d),some (.ref p),some (.str (ws.getD i Str.empty)),some (.str (ws.getD j Str.empty)),some (.ref q1),none,none,none,none]) ?_ λN hN=>?_;rotate_left
 . (try walk_at "rd")
   refine qaF (SqL.of c1) (qbh (i:=0) rfl) ⟨_,.inl ⟨rfl,rfl⟩,false,congrArg V.bl (by rw[decide_eq_true rfl];rfl),qcA ⟨_,.inl (SqL.of c1),false,rfl,?_⟩⟩;rw[if_neg (by decide)];exact hN _ _ ⟨rfl,rfl⟩
 rintro σ' H' ⟨rfl,rfl⟩
 (try walk_at "rd")
 refine qaF (SqL.of c1) (qbh (i:=1) rfl) ⟨qau (by simp),λt1 ht1=>?_⟩;generalize gt1:upd G1 t1 _=G2;have d1:=qap gt1;have w2:=qaj gt1 ht1;refine qaF (SqL.of (w2 _ _ c1)) (qbh (i:=2) rfl) ⟨qau (by simp),λt2 ht2=>⟨qau (by simp),λt3 ht3=>⟨⟨_,SqL.of qag⟩,?_⟩⟩⟩;generalize gt2:upd G2 t2 _=G3 at ht3⊢;have d2:=qap gt2;have w3:=qaj gt2 ht2;generalize gt3:upd G3 t3 _=G4;have d3:=qap gt3;have w4:=qaj gt3 ht3;have d1:=w4 _ _ (w3 _ _ d1);have d2:=w4 _ _ d2;have w4:=((w1.trans w2).trans w3).trans w4;have D4:=D.same w4;have f4:=w4 _ _ f1
 have key:∀(n:Nat) (x:V),[V.ref t1,V.ref t2][n]?=some x->∃(r:Addr) (o x' y':Nat),x = .ref r/\G4 r=some (.tup [.str (Tx.sT ws o),.str (ws.getD x' Str.empty),.str (ws.getD y' Str.empty)])/\o<2^ws.length/\o.testBit i=false/\o.testBit j=false/\x'<ws.length/\y'<ws.length/\Fam.sayP A (o|||2^x')=true/\Fam.sayP A (o|||2^y')=false:=λn x hx=>by
   match n,hx with
   | 0,hx=>cases hx;exact⟨t1,s,i,j,rfl,d1,a1,a2,a3,hi,hj,a4,a5⟩
   | 1,hx=>cases hx;exact⟨t2,t,j,i,rfl,d2,b1,b3,b2,hj,hi,b4,b5⟩
 have gx:∀k,k<ws.length->ws.idxOf (ws.getD k Str.empty)=k/\ws.getD k Str.empty∈ws:=λk hk=>by
   rw[ycj,yck hk];exact⟨hw.nd.idxOf_getElem k hk,ydp hk⟩
 refine qgr (xs:=[V.ref t1,V.ref t2]) (λn σ H'=>∃v5 v6 v7 v8,σ=[some (.ref d),some (.ref p),some (.str (ws.getD i Str.empty)),some (.str (ws.getD j Str.empty)),some (.ref q1),v5,v6,v7,v8]/\qar G4 H') ⟨none,none,none,none,rfl,qar.refl _⟩ (λn σ H' _ ⟨_,_,_,_,_,e⟩=>SqL.of (e _ _ d3)) ?_ ?_
 . rintro n x σ H5 hx ⟨v5,v6,v7,v8,rfl,s5⟩ N hN
   obtain⟨r,o,x',y',rfl,fr,ho,ob1,ob2,hx',hy',sy,sn⟩:=key n x hx
   (try walk_at "rd")
   refine⟨_,SqT.of (s5 _ _ fr),rfl,_,_,rfl,_,_,rfl,_,_,rfl,rfl,?_⟩
   (try walk_at "rd")
   refine⟨_,_,rfl,p,ws,o,rfl,s5 _ _ f4,hw,rfl,ho,λH6 s6=>?_⟩;have s6:=s5.trans s6;have f6:=s6 _ _ f4
   (try walk_at "rd")
   refine⟨qaX f6,p,ws,_,rfl,rfl,f6,(gx i hi).2,by omega,?_⟩;rw[(gx i hi).1]
   (try walk_at "rd")
   refine⟨by omega,?_⟩;rw[if_neg (by rw[qdx,ob1];decide)];refine⟨qaX f6,p,ws,_,rfl,rfl,f6,(gx j hj).2,by omega,?_⟩;rw[(gx j hj).1]
   (try walk_at "rd")
   refine⟨by omega,?_⟩;rw[if_neg (by rw[qdx,ob2];decide)];refine⟨qaX f6,p,ws,_,rfl,rfl,f6,(gx x' hx').2,by omega,?_⟩;rw[(gx x' hx').1]
   (try walk_at "rd")
   refine⟨qaK (by omega) (by omega) (by decide) (by decide),?_⟩;rw[qaQ,qcb];refine⟨_,_,_,rfl,d,pk,p,ws,m,A,o|||2^x',rfl,rfl,rfl,D4.same s6,f6,hA,ybr ho (ybs (by decide) hx'),λH7 s7=>⟨_,rfl,?_⟩⟩;rw[sy,if_neg (by decide)];have s7:=s6.trans s7;have f7:=s7 _ _ f4;refine⟨qaX f7,p,ws,_,rfl,rfl,f7,(gx y' hy').2,by omega,?_⟩;rw[(gx y' hy').1]
   (try walk_at "rd")
   refine⟨qaK (by omega) (by omega) (by decide) (by decide),?_⟩;rw[qaQ,qcb];refine⟨_,_,_,rfl,d,pk,p,ws,m,A,o|||2^y',rfl,rfl,rfl,D4.same s7,f7,hA,ybr ho (ybs (by decide) hy'),λH8 s8=>⟨_,rfl,?_⟩⟩;rw[sn,if_neg (by decide)];exact hN _ _ ⟨_,_,_,_,rfl,s7.trans s8⟩
 . rintro σ H5 ⟨v5,v6,v7,v8,rfl,s5⟩
   (try walk_at "rd")
   exact q _ (w4.trans s5)
abbrev qcx:Stmt:=top 98
theorem qdl:qal ["_law_desk", "_law_words_here", "_law_order", "_law_parts", "_law_told", "_law_flat", "_law_group", "_law_counts", "_law_k", "_law_one", "_law_other"] ["_law_desk", "_law_words_here", "_law_order", "_law_parts"] (qaf qcx):=fsc
theorem qmz:∀{n M:Nat}{F:List Nat},F∈fl n M->F.Pairwise (· > ·)
 | 0,_,F,h=>by
  have:F=[]:=by simpa[fl] using h
  rw[this];exact List.Pairwise.nil
 | n+1,M,F,h=>by
  obtain⟨a,ha,h1⟩:=yda.mp h;obtain⟨G,h2,rfl⟩:=ybu.mp h1;exact ybe.mpr ⟨λx hx=>qlN h2 x hx,qmz h2⟩
theorem qrk {cs L M:List Nat}{i j x y:Nat}(h1:(rkd cs)[i]?=some L)(h2:(rkd cs)[j]?=some M)(hx:x∈L)(hy:y∈M)(h:i<j):cs.getD y 0<cs.getD x 0:=by
 have fall:=ycn.mp (qe3 cs) i j (ycm.mp h1).1 (ycm.mp h2).1 h;rw[(ycm.mp h1).2,(ycm.mp h2).2] at fall;exact fall x hx y hy
theorem qjM {ws:List Str}:∀LL:List (List Nat),(LL.map λks=>ks.map λk=>ws.getD k Str.empty).flatten=LL.flatten.map λk=>ws.getD k Str.empty
 | []=>rfl
 | L::LL=>by rw[ycg,yfm,yfm,ycv,qjM LL]
theorem qjh {ws:List Str}{cs:List Nat}(h:cs.length=ws.length):((rkd cs).map λks=>ks.map λk=>ws.getD k Str.empty).flatten.Perm ws:=by
 rw[qjM]
 have e:(List.range ws.length).map (λk=>ws.getD k Str.empty)=ws:=by
  refine yej (by simp) λk h1 h2=>?_;rw[List.getElem_map,List.getElem_range,ycj,yck h2];rfl
 have pm:(rkd cs).flatten.Perm (List.range ws.length):=(yga (qd2 cs) ycc).mpr λx=>by rw[qcm,ybj,h]
 have:=pm.map λk=>ws.getD k Str.empty
 rwa [e] at this
def qpG (cD:Addr):Sp:=sp4 λx y z u H Q=>∃(d pk p po pt:Addr) (ws:List Str) (m:List (Str×List Nat)) (A N:List Nat) (b:Nat),x = .ref d/\y = .ref p/\z = .ref po/\u = .ref pt/\qda cD H d pk ws m/\H p=some (.lst (sV ws))/\m.lookup ("a" : Str)=some A/\H po=some (.lst (sV ((rkd (Fam.trns ws.length (Fam.sayP A))).map (alT ws))))/\H pt=some (.lst (sV (vtP ws (.w N b))))/\WgF ws.length A N b/\∀H',qar H H'->Q (.bl true) H'
theorem qf0 {f:Addr}{fd:FuncData}(F:Fun K "_law_ranked" "_law_ranked" qcx f fd)(T:Txt mg){cD aW:Addr}(Z:Xt P w K mg cD aW){f_51:Addr}{fd_51:FuncData}(C_51:qeQ P w K mg base cD "say" 11 ["self", "row"] (qmx cD) f_51 fd_51):qaM P w K mg base CX0 12 f fd ["_law_desk", "_law_words_here", "_law_order", "_law_parts"] (qpG cD):=by
 have sc:=qdl;refine F.ok qdl (λvs H Q E h=>by obtain⟨_,_,_,_,rfl,_⟩:=h;rfl) (λcdv A outer s H vs Q E hr h=>?_);obtain⟨x0,x1,x2,x3,rfl,h⟩:=h
 refine⟨_,(qab (qbs (i:=4) sc.nd rfl rfl (by rfl) (N:=["_law_group"]) (nt:=1) (caps:=[]) qax rfl (qb1 (K:=K) rfl (pv 2)) (λ_ _ _ _ _=>(qam (i:=0) (show List.Nodup (α:=Str) ["_law_group"] from by decide +kernel) rfl (Or.inl rfl))) qaz (λ_ _ _ _ _=>qaD) (λ_ _ _ _ _=>(qcY (K:=K) rfl yhe yhh yhi qbE (pv 0) (qaa qaq qac))))
   (qab (qat (i:=5) sc.nd rfl (Or.inl rfl) (qaJ qac))
   (qab (qaZ PassesOwn.never rfl (qb1 (K:=K) rfl (pv 4)) (qam (i:=6) sc.nd rfl (Or.inl rfl)) (qad (qat (i:=5) sc.nd rfl (Or.inl rfl) (qan (qb4 (K:=K) rfl) (pv 5) (pv 6)))))
   (qab (qaA (qai (qbW (K:=K) rfl hr.units0) (qas (qgk (K:=K) rfl) (by rfl) T.n_sorted PyProof.Rows.boot_sorted (qaa (pv 5) qac)) (qas (qgk (K:=K) rfl) (by rfl) T.n_sorted PyProof.Rows.boot_sorted (qaa (pv 1) qac)) (qao _)) (qad (qah qbg)) qak)
   (qab (qaA (qai (qav (K:=K) rfl hr.units0) (pv 1) (qaJ qac) (qao _)) (qad (qah qbg)) qak)
   (qab (qbs (i:=7) sc.nd rfl rfl (by rfl) (N:=["_law_number"]) (nt:=1) (caps:=[]) qax rfl (qb1 (K:=K) rfl (qcY (K:=K) rfl yhe yhh yhi qbE (qbF (pv 0) Z.cl C_51 hr (by decide) (qaa qaq qac)) (qaa qaq qac))) (λ_ _ _ _ _=>(qam (i:=0) (show List.Nodup (α:=Str) ["_law_number"] from by decide +kernel) rfl (Or.inl rfl))) qaz (λ_ _ _ _ _=>qaD) (λ_ _ _ _ _=>(qba qdJ (by rfl) T.n_int PyProof.Rows.boot_int (qaa (pv 0) qac))))
   (qab (qaZ PassesOwn.never rfl (qh0 (by rfl) T.n_range (qaa qae (qaa (qas (qaB (K:=K) rfl) (by rfl) T.n_len PySem.boot_len (qaa (pv 4) qac)) qac))) (qam (i:=8) sc.nd rfl (Or.inl rfl)) (qab (qat (i:=9) sc.nd rfl (Or.inl rfl) (qcY (K:=K) rfl ygw ygp yhj qbi (pv 1) (qaa (qaw (qaO (K:=K) rfl) (qaw (qaO (K:=K) rfl) (pv 4) (qan qic (pv 8) qae) (λ_ _=>rfl)) qae (λ_ _=>rfl)) qac)))
   (qab (qat (i:=10) sc.nd rfl (Or.inl rfl) (qcY (K:=K) rfl ygw ygp yhj qbi (pv 1) (qaa (qaw (qaO (K:=K) rfl) (qaw (qaO (K:=K) rfl) (pv 4) (pv 8) (λ_ _=>rfl)) qae (λ_ _=>rfl)) qac)))
   (qab (qaA (qai qkm (qaw (qaO (K:=K) rfl) (pv 7) (pv 9) (λ_ _=>rfl)) (qaw (qaO (K:=K) rfl) (pv 7) (pv 10) (λ_ _=>rfl)) (qao _)) (qad (qah qbg)) qak)
   (qad (qaA (PW.pt (qcB (qai (qav (K:=K) rfl hr.units0) (qaw (qaO (K:=K) rfl) (pv 3) qae (λ_ _=>rfl)) qaq (qao _)) (qbO (qai qkm (qba qdJ (by rfl) T.n_int PyProof.Rows.boot_int (qaa (qaw (qaO (K:=K) rfl) (pv 3) (qan qbf qae (pv 9)) (λ_ _=>rfl)) qac)) (qba qdJ (by rfl) T.n_int PyProof.Rows.boot_int (qaa (qaw (qaO (K:=K) rfl) (pv 3) (qan qbf qae (pv 10)) (λ_ _=>rfl)) qac)) (qao _))))) (qad (qah qbg)) qak))))))
   (qad (qah qbg))))))))),?_⟩
 refine rdg (σ':=[some x0,some x1,some x2,some x3,none,none,none,none,none,none,none]) rfl ?_;obtain⟨d,pk,p,po,pt,ws,m,A,N,b,rfl,rfl,rfl,rfl,D,f1,hA,fO,fP,hW,q⟩:=h;have hw:=D.wd;have h8:=hw.few;have hA':=D.fm _ _ hA;have lc:=qbe ws.length (Fam.sayP A);have low:=qjt h8 (Fam.sayP A);obtain⟨lN,nN,nb⟩:=qiR hW;have rl:∀L∈rkd (Fam.trns ws.length (Fam.sayP A)),L≠[]/\(∀k∈L,k<ws.length):=λL hL=>⟨qpj hL,λk hk=>by have:=qjD hL hk;omega⟩;have rn:=qji (Fam.trns ws.length (Fam.sayP A))
 have fO':H po=some (.lst ((rkd (Fam.trns ws.length (Fam.sayP A))).map λks=>V.str (alT ws ks))):=by
   rw[fO];unfold sV;rw[ycw];rfl
 refine qbb (λσ' H'=>∃(p1:Addr) (ps:List Addr),qar H H'/\H' p1=some (.lst (ps.map V.ref))/\LsS H' ((rkd (Fam.trns ws.length (Fam.sayP A))).map λks=>ks.map λk=>ws.getD k Str.empty) ps/\σ'=[some (.ref d),some (.ref p),some (.ref po),some (.ref pt),some (.ref p1),none,none,none,none,none,none]) ?_ λN hN=>?_;rotate_left
 . (try walk_at "rd")
   refine⟨⟨_,SqL.of fO'⟩,qti (ks:=rkd (Fam.trns ws.length (Fam.sayP A))) (λks=>V.str (alT ws ks)) (λks=>ks.map λk=>ws.getD k Str.empty) fO' (by omega) (λL hL H1 s1 R R' r1=>?_) λH1 p1 ps s1 hp1 hLs=>?_⟩
   . (try walk_at "rd")
     have ll:=qgs hL;have al:=qmc hw (ks:=L) (by omega) (rl L hL).2;refine⟨rfl,_,_,rfl,rfl,by rw[qfa];rfl,by omega,λr hr=>?_⟩;rw[qns hw (rl L hL).1 (rl L hL).2];exact r1 r _ (qar.new hr) qag
   exact hN _ _ ⟨p1,ps,s1.trans (qar.new hp1),qag,hLs.mono (qar.new hp1),rfl⟩
 rintro σ' G1 ⟨p1,ps,w1,c1,hLs,rfl⟩;have pmw:=qjh (ws:=ws) (cs:=Fam.trns ws.length (Fam.sayP A)) (by omega);have lLL:((rkd (Fam.trns ws.length (Fam.sayP A))).map λks=>ks.map λk=>ws.getD k Str.empty).length<=8:=by rw[ycd];omega
 have iLL:∀(n:Nat) (L:List Str),((rkd (Fam.trns ws.length (Fam.sayP A))).map λks=>ks.map λk=>ws.getD k Str.empty)[n]?=some L->∃ks:List Nat,(rkd (Fam.trns ws.length (Fam.sayP A)))[n]?=some ks/\L=ks.map λk=>ws.getD k Str.empty:=λn L e=>by
   rw[ycp] at e;cases ek:(rkd (Fam.trns ws.length (Fam.sayP A)))[n]? with
   | none=>rw[ek] at e;cases e
   | some ks=>rw[ek] at e;cases e;exact⟨ks,rfl,rfl⟩
 generalize ((rkd (Fam.trns ws.length (Fam.sayP A))).map λks=>ks.map λk=>ws.getD k Str.empty)=LL at hLs pmw lLL iLL;refine qbb (λσ' H'=>∃p2:Addr,qar G1 H'/\H' p2=some (.lst (sV []))/\σ'=[some (.ref d),some (.ref p),some (.ref po),some (.ref pt),some (.ref p1),some (.ref p2),none,none,none,none,none]) ?_ λN hN=>?_;rotate_left
 . (try walk_at "rd")
   exact⟨qau (by simp),λp2 hp2=>hN _ _ ⟨p2,qar.new hp2,qag,rfl⟩⟩
 rintro σ' G2 ⟨p2,t2,c2,rfl⟩;have w2:=w1.trans t2;have c1:=t2 _ _ c1;have hLs:=hLs.mono t2;have lps:=hLs.1
 have lfl:∀n,((LL.take n).flatten).length<=8:=λn=>by
   have h1:=congrArg List.length (show LL.flatten=(LL.take n).flatten++(LL.drop n).flatten by rw[<-yhm,ydl]);have h2:=pmw.length_eq;rw[ydq] at h1;omega
 refine qbb (λσ' H'=>∃(pf:Addr) (v:Option V),qar G2 H'/\H' pf=some (.lst (sV LL.flatten))/\σ'=[some (.ref d),some (.ref p),some (.ref po),some (.ref pt),some (.ref p1),some (.ref pf),v,none,none,none,none]) ?_ λN hN=>?_;rotate_left
 . (try walk_at "rd")
   refine⟨⟨_,SqL.of c1⟩,?_⟩;refine qgr (xs:=ps.map V.ref) (λn σ H'=>∃(pf:Addr) (v:Option V),σ=[some (.ref d),some (.ref p),some (.ref po),some (.ref pt),some (.ref p1),some (.ref pf),v,none,none,none,none]/\qar G2 H'/\H' pf=some (.lst (sV ((LL.take n).flatten)))) ⟨p2,none,rfl,qar.refl _,c2⟩ (λn σ H' _ ⟨_,_,_,e,_⟩=>SqL.of (e _ _ c1)) ?_ ?_
   . rintro n x σ H3 hx ⟨pf,v,rfl,s3,b3⟩ N' hN
     rw[ycp] at hx;cases er:ps[n]? with
     | none=>rw[er] at hx;cases hx
     | some r =>
       rw[er] at hx;cases hx
       have hn:n<LL.length:=by
         have:=(ycm.mp er).1;omega
       have el:LL[n]?=some LL[n]:=yck hn;have fr:=s3 _ _ (hLs.2 n r _ er el);have l1:=lfl n
       have l2:((LL.take n).flatten++LL[n]).length<=8:=by
         have:=lfl (n+1);rw[ygq,el,yhm] at this;simpa using this
       (try walk_at "rd")
       refine⟨pf,r,_,_,rfl,rfl,SqL.of b3,SqL.of fr,qau (by rw[qaI,qaI];rw[ydq] at l2;omega),λp4 hp4=>hN _ _ ⟨p4,_,rfl,s3.trans (qar.new hp4),?_⟩⟩;rw[qag,ygq,el,yhm];simp[sV]
   rintro σ H3 ⟨pf,v,rfl,s3,b3⟩;rw[ycd,lps,ydi] at b3;exact hN _ _ ⟨pf,v,s3,b3,rfl⟩
 rintro σ' H3 ⟨pf,v,s3,b3,rfl⟩;have w3:=w2.trans s3;have lf:=pmw.length_eq;refine qbb (λσ' H'=>qar H3 H'/\σ'=[some (.ref d),some (.ref p),some (.ref po),some (.ref pt),some (.ref p1),some (.ref pf),v,none,none,none,none]) ?_ λN hN=>?_;rotate_left
 . (try walk_at "rd")
   refine⟨_,SqL.of b3,by omega,λl1 ts1 hl1 pm1 up1=>⟨_,SqL.of (qar.new hl1 _ _ (w3 _ _ f1)),by omega,λl2 ts2 hl2 pm2 up2=>?_⟩⟩;obtain rfl:ts1=ts2:=qp4 ((pm1.trans pmw).trans pm2.symm) up1 up2;generalize gl1:upd H3 l1 _=G4 at hl2⊢;have e1:=qap gl1;have w4:=w3.trans (qaj gl1 hl1);generalize gl2:upd G4 l2 _=G5;have e2:=qap gl2;have w5:=w4.trans (qaj gl2 hl2);exact qqH (SqL.of (qaj gl2 hl2 _ _ e1)) (SqL.of e2) (qbT _) (qbT _) ⟨false,by rw[qe9];simp,qcA (hN _ _ ⟨(qaj gl1 hl1).trans (qaj gl2 hl2),rfl⟩)⟩
 rintro σ' G5 ⟨t5,rfl⟩;have w5:=w3.trans t5;have t5:=s3.trans t5;refine qbb (λσ' H'=>ws≠[]/\qar G5 H'/\σ'=[some (.ref d),some (.ref p),some (.ref po),some (.ref pt),some (.ref p1),some (.ref pf),v,none,none,none,none]) ?_ λN hN=>?_;rotate_left
 . (try walk_at "rd")
   refine⟨qau (by simp),λp6 hp6=>?_⟩;refine qgO (SqL.of (qar.new hp6 _ _ (w5 _ _ f1))) (SqL.of qag) (qbT _) rfl ?_;rw[show([]:List V)=sV [] from rfl,qe9];by_cases h0:ws=[]
   . exact⟨true,by rw[decide_eq_true h0],qeK (q _ (w5.trans (qar.new hp6)))⟩
   . exact⟨false,by rw[decide_eq_false h0],qcA (hN _ _ ⟨h0,qar.new hp6,rfl⟩)⟩
 rintro σ' G6 ⟨h0,t6,rfl⟩;have w6:=w5.trans t6;have t6:=t5.trans t6;have c1:=t6 _ _ c1;have hLs:=hLs.mono t6;have f6:=w6 _ _ f1;have D6:=D.same w6;obtain⟨dx,pw,o1,_⟩:=D6.ob
 have pr:Prs ((Fam.trns ws.length (Fam.sayP A)).map qkH):=by
   refine⟨λe=>h0 ?_,by rw[ycd];omega,λw hm=>?_⟩
   . rw[ygm] at e
     rw[e] at lc;exact yec.mp lc.symm
   . obtain⟨n,hn,rfl⟩:=ybu.mp hm
     exact⟨qjP n (low n hn),ybn (qgG n (low n hn)) (by decide)⟩
 refine qbb (λσ' H'=>∃p8:Addr,qar G6 H'/\H' p8=some (.lst (nV (Fam.trns ws.length (Fam.sayP A))))/\σ'=[some (.ref d),some (.ref p),some (.ref po),some (.ref pt),some (.ref p1),some (.ref pf),v,some (.ref p8),none,none,none]) ?_ λN hN=>?_;rotate_left
 . (try walk_at "rd")
   refine⟨dx,_,o1,qcs _ _ (by decide +kernel) (by decide +kernel),_,_,rfl,d,pk,ws,m,_, "turns",["a"],["family"],[.fm A],rfl,D6,rfl,(show Prt (Str.ofString "turns a") "turns" ["a"] ["family"] from⟨by decide +kernel,by decide +kernel,by decide +kernel,rfl,by decide +kernel⟩),qj3 (.fam hA),.inr ⟨"family",_,rfl,by decide +kernel,.turns hA',λz H7 hz s7=>?_⟩⟩;subst hz;refine⟨rfl,_,_,rfl,rfl,by rw[Tx.lit_space];rfl,ybn pr.len (by decide),λp7 hp7=>?_⟩;rw[show _root_.PySem.Txt.split (qrt (Fam.trns ws.length (Fam.sayP A))) (Str.ofString " ")=_ from pr.split];generalize g7:upd H7 p7 _=G7
   have e7:G7 p7=some (.lst ((Fam.trns ws.length (Fam.sayP A)).map λn=>V.str (qkH n))):=by
     rw[qap g7];unfold sV;rw[ycw];rfl
   have t7:=s7.trans (qaj g7 hp7);refine⟨p7,rfl,⟨_,SqL.of e7⟩,ql0 (ks:=Fam.trns ws.length (Fam.sayP A)) (λn=>V.str (qkH n)) (λn => .int (n:Nat)) e7 (by omega) (λn hn H8 s8 R R' r1=>?_) λH8 p8 s8 hp8=>?_⟩
   . (try walk_at "rd")
     exact⟨n,rfl,ybn (low n hn) (by decide),r1 _ (qar.refl _)⟩
   generalize g8:upd H8 p8 _=G8
   have e8:G8 p8=some (.lst (nV (Fam.trns ws.length (Fam.sayP A)))):=by
     rw[qap g8];simp[nV,nI]
   have t8:=t7.trans (s8.trans (qaj g8 hp8));exact hN _ _ ⟨p8,t8,e8,rfl⟩
 rintro σ' G8 ⟨p8,t8,e8,rfl⟩;have w8:=w6.trans t8;have c1:=t8 _ _ c1;have hLs:=hLs.mono t8
 (try walk_at "rd")
 refine⟨_,.inl (SqL.of c1),1,_,⟨rfl,rfl⟩,by rw[ycd,lps];exact⟨by decide,by decide,by omega,by omega⟩,?_⟩;rw[ycd,lps,show((LL.length:Int)-1).toNat=LL.length-1 by omega]
 have gx:∀k,k<ws.length->ws.idxOf (ws.getD k Str.empty)=k/\ws.getD k Str.empty∈ws:=λk hk=>by
   rw[ycj,yck hk];exact⟨hw.nd.idxOf_getElem k hk,ydp hk⟩
 have gp:∀n,n<LL.length->∃(r:Addr) (x:Nat) (ks:List Nat),ps[n]?=some r/\(rkd (Fam.trns ws.length (Fam.sayP A)))[n]?=some (x::ks)/\x<ws.length/\G8 r=some (.lst (sV (ws.getD x Str.empty::ks.map λk=>ws.getD k Str.empty))):=λn hn=>by
   have er:ps[n]?=some (ps[n]'(by omega)):=yck _;have el:LL[n]?=some LL[n]:=yck hn;have fr:=hLs.2 n _ _ er el;obtain⟨ks,e1,e2⟩:=iLL n _ el;have hm:=ycl e1;cases ks with
   | nil=>exact absurd rfl (rl _ hm).1
   | cons x ks =>
     rw[e2] at fr;exact⟨_,x,ks,er,e1,(rl _ hm).2 x ybd,fr⟩
 have gN:∀x,x<ws.length->(vtP ws (.w N b))[1+x]?=some (qkH (N.getD x 0))/\N.getD x 0<=256:=λx hx=>by
   have e:N[x]?=some (N.getD x 0):=by rw[ycj,yck (by omega)];rfl
   refine⟨?_,ybn (nN _ (ycl e)) (by decide)⟩;show(("weights" : Str)::(N++[b]).map qkH)[1+x]?=_;rw[yfp,ygu,ycp,yfe (by omega),e];rfl
 obtain⟨jF,F',eF,gv,_⟩:=hW;have lF:=qfn (ycl eF);have fF:=qmz (ycl eF);refine qry (λn σ H'=>∃(v8 v9 v10:Option V),σ=[some (.ref d),some (.ref p),some (.ref po),some (.ref pt),some (.ref p1),some (.ref pf),v,some (.ref p8),v8,v9,v10]/\qar G8 H') ⟨none,none,none,rfl,qar.refl _⟩ ?_ ?_
 . rintro n σ H9 hn ⟨v8,v9,v10,rfl,s9⟩ N' hN
   obtain⟨r1,x1,k1,er1,ek1,hx1,fr1⟩:=gp n (by omega);obtain⟨r2,x2,k2,er2,ek2,hx2,fr2⟩:=gp (n+1) (by omega);have f9:=s9 _ _ (w8 _ _ f1);have P9:=s9 _ _ (w8 _ _ fP);have c9:=s9 _ _ c1;have e9:=s9 _ _ e8;have fr1:=s9 _ _ fr1;have fr2:=s9 _ _ fr2;have lt:=qrk ek1 ek2 ybd ybd (ycy n)
   have n1:n<F'.length:=by
     have:=(ycm.mp ek1).1;omega
   have n2:n+1<F'.length:=by
     have:=(ycm.mp ek2).1;omega
   have v1:=gv.2 n _ _ ek1 (yck n1) x1 ybd;have v2:=gv.2 (n+1) _ _ ek2 (yck n2) x2 ybd;have v12:=ycn.mp fF n (n+1) n1 n2 (by omega);have gc:∀x,x<ws.length->(Fam.trns ws.length (Fam.sayP A))[x]?=some ((Fam.trns ws.length (Fam.sayP A)).getD x 0):=λx hx=>by rw[ycj,yck (by omega)];rfl
   (try walk_at "rd")
   rw[show(1:Int)+(n:Int)-1=((n:Nat):Int) by omega,show(1:Int)+(n:Int)=((n+1:Nat):Int) by omega];refine⟨qaX f9,qaF (SqL.of c9) (qaR (j:=n) (by rw[ycp,er1];rfl)) (qaF (SqL.of fr1) (qbh (i:=0) rfl) ⟨p,ws,_,rfl,rfl,f9,(gx x1 hx1).2,by omega,?_⟩)⟩;rw[(gx x1 hx1).1];refine⟨qaX f9,qaF (SqL.of c9) (qaR (j:=n+1) (by rw[ycp,er2];rfl)) (qaF (SqL.of fr2) (qbh (i:=0) rfl) ⟨p,ws,_,rfl,rfl,f9,(gx x2 hx2).2,by omega,?_⟩)⟩;rw[(gx x2 hx2).1]
   (try walk_at "rd")
   refine qaF (SqL.of e9) (qd1 (gc x1 hx1)) (qaF (SqL.of e9) (qd1 (gc x2 hx2)) ?_)
   (try walk_at "rd")
   rw[if_neg (by omega)];refine qaF (SqL.of P9) (qbh (i:=0) rfl) ⟨_,.inl ⟨rfl,rfl⟩,true,congrArg V.bl (decide_eq_true rfl),qeK ?_⟩;rw[show(1:Int)+(x1:Int)=((1+x1:Nat):Int) by omega,show(1:Int)+(x2:Int)=((1+x2:Nat):Int) by omega];have b1:=(gN x1 hx1).2;have b2:=(gN x2 hx2).2;refine qaF (SqL.of P9) (qbh (i:=1+x1) (gN x1 hx1).1) ⟨N.getD x1 0,rfl,by omega,qaF (SqL.of P9) (qbh (i:=1+x2) (gN x2 hx2).1) ⟨N.getD x2 0,rfl,by omega,?_⟩⟩;rw[if_neg (by rw[v1,v2];omega)];exact hN _ _ ⟨_,_,_,rfl,s9⟩
 . rintro σ H9 ⟨v8,v9,v10,rfl,s9⟩
   (try walk_at "rd")
   exact q _ (w8.trans s9)
abbrev qhc:Stmt:=top 99
theorem qpB:qal ["_law_script", "_law_many", "_law_family_here", "_law_cells_here", "_law_words_here", "_law_desk", "_law_parts", "_law_order"] ["_law_script"] (qaf qhc):=fsc
theorem qmp {m:Nat}{f:Nat->Bool}{x y s u:Nat}(a1:x<y)(a2:y<m)(n:qit m f m 0)(p1:Fam.part m f x y=some s)(p2:Fam.part m f y x=some u):False:=by
 rcases n x y a1 a2 (.inl (by omega)) with e | e
 .rw[e] at p1;cases p1
 .rw[e] at p2;cases p2
theorem qri {ws:List Str}{A:List Nat}{z n:Str}(hw:Tx.Wds ws)(hA:Fml ws.length A)(hz:z=pre ["let",n] Str.empty)(hn:32∉Tx.sg n)(hs:z.length<=100):Prt (z++Tx.fT ws A) "let" [n,Tx.fT ws A] ["new", "text"]:=by
 have e:z++Tx.fT ws A=pre ["let",n] (Tx.fT ws A):=by rw[qjc,hz]
 rw[e];refine qq7 hn ?_;rw[<-e,Str.length_append];have:=Tx.fT_len hw hA.lt (by have:=hA.few;omega);omega
theorem qsh {ws:List Str}(hw:Tx.Wds ws)(f:Nat->Bool):Prs (("ranks" : Str)::(rkd (Fam.trns ws.length f)).map (alT ws)):=by
 have h8:=hw.few;have lc:=qbe ws.length f;have rn:=qji (Fam.trns ws.length f);refine⟨by simp,by simp;omega,λw hm=>?_⟩;rcases ybf.mp hm with rfl | hm
 .exact⟨by decide +kernel,by decide +kernel⟩
 .obtain⟨L,hL,rfl⟩:=ybu.mp hm
  have ll:=qgs hL
  have hk:∀k∈L,k<ws.length:=λk hk=>by
   have:=qjD hL hk;omega
  exact⟨qq6 hw hk,qmc hw (by omega) hk⟩
def qmD (K:W.Frag):Sp:=sp1 λx H Q=>∃(a:Addr) (ns:List Int),x = .ref a/\SqL K H a (ns.map V.int)/\ns.length<=63/\∀H',Q (.bl true) H'
theorem qrZ {f:Addr}{fd:FuncData}(F:Fun K "law" "law" qhc f fd)(T:Txt mg){cD aW:Addr}(Z:Xt P w K mg cD aW){f_39:Addr}{fd_39:FuncData}(C_39:Cal P w K mg base "_law_made" 3 ["_law_script"] (qlE K) f_39 fd_39){f_22:Addr}{fd_22:FuncData}(C_22:Cal P w K mg base "_law_cells" 1 ["_law_script", "_law_amount"] (qgw K) f_22 fd_22){f_24:Addr}{fd_24:FuncData}(C_24:Cal P w K mg base "_law_words" 1 ["_law_cell", "_law_many"] (qij K) f_24 fd_24){f_09:Addr}{fd_09:FuncData}(C_09:qq9 P w K mg base cD 3 ["self", "text"] (qpm cD) f_09 fd_09){f_21:Addr}{fd_21:FuncData}(C_21:Cal P w K mg base "_law_ranked" 12 ["_law_desk", "_law_words_here", "_law_order", "_law_parts"] (qpG cD) f_21 fd_21){f_51:Addr}{fd_51:FuncData}(C_51:qeQ P w K mg base cD "say" 11 ["self", "row"] (qmx cD) f_51 fd_51){f_14:Addr}{fd_14:FuncData}(C_14:Cal P w K mg base "_law_weights" 13 ["_law_desk", "_law_words_here", "_law_parts"] (qps cD) f_14 fd_14){f_30:Addr}{fd_30:FuncData}(C_30:Cal P w K mg base "_law_trade" 13 ["_law_desk", "_law_words_here", "_law_parts"] (qsG cD) f_30 fd_30){f_31:Addr}{fd_31:FuncData}(C_31:Cal P w K mg base "_law_apart" 13 ["_law_desk", "_law_words_here", "_law_x", "_law_y"] (qrC cD) f_31 fd_31){f_32:Addr}{fd_32:FuncData}(C_32:Cal P w K mg base "_law_text" 2 ["_law_words_here", "_law_family_here"] (qlJ K) f_32 fd_32):qaM P w K mg base CX0 14 f fd ["_law_script"] (qmD K):=by
 have sc:=qpB;refine F.ok qpB (λvs H Q E h=>by obtain⟨_,rfl,_⟩:=h;rfl) (λcdv A outer s H vs Q E hr h=>?_);obtain⟨x0,rfl,h⟩:=h
 refine⟨_,(qab (qmC (pec C_39 hr (qaa (pv 0) qac)) (qgq (n:=2) rfl (qa1 (qam (i:=1) sc.nd rfl (Or.inl rfl)) (qa1 (qam (i:=2) sc.nd rfl (Or.inl rfl)) qen))))
   (qab (qat (i:=3) sc.nd rfl (Or.inl rfl) (pec C_22 hr (qaa (pv 0) (qaa qae qac))))
   (qab (qat (i:=4) sc.nd rfl (Or.inl rfl) (pec C_24 hr (qaa (qan qbd (qaw (qaO (K:=K) rfl) (pv 3) qae (λ_ _=>rfl)) qae) (qaa (pv 1) qac))))
   (qab (qat (i:=5) sc.nd rfl (Or.inl rfl) (qnK C_09 hr (by decide) (by rfl) Z.gDesk (qaa (qbj yhe yhf yhg (qbC (K:=K) rfl) qaq (qaa (pv 4) qac)) qac)))
   (qab (qaA (qai (qbW (K:=K) rfl hr.units0) (qbF (pv 5) Z.cl C_51 hr (by decide) (qaa (qan qbG qaq (pec C_32 hr (qaa (pv 4) (qaa (pv 2) qac)))) qac)) qaq (qao _)) (qad (qah qbg)) qak)
   (qab (qat (i:=6) sc.nd rfl (Or.inl rfl) (qbj yhe yhh yhi qbE (qbF (pv 5) Z.cl C_51 hr (by decide) (qaa qaq qac)) (qaa qaq qac)))
   (qab (qat (i:=7) sc.nd rfl (Or.inl rfl) (qbj yhe yhh yhi qbE (qbF (pv 5) Z.cl C_51 hr (by decide) (qaa qaq qac)) (qaa qaq qac)))
   (qab (qaA (PW.pt (qcB (qai (qav (K:=K) rfl hr.units0) (qaw (qaO (K:=K) rfl) (pv 6) qae (λ_ _=>rfl)) qaq (qao _)) (qbO (qai (qav (K:=K) rfl hr.units0) (qan qa3 (qaw (qaO (K:=K) rfl) (pv 3) qae (λ_ _=>rfl)) qae) qae (qao _))))) (qad (qah qbg)) qak)
   (qab (qaA (PW.pt (qcB (qai (qav (K:=K) rfl hr.units0) (qaw (qaO (K:=K) rfl) (pv 6) qae (λ_ _=>rfl)) qaq (qao _)) (qbO (qbD (qa9 (pec C_14 hr (qaa (pv 5) (qaa (pv 4) (qaa (qaS (qkF (K:=K) rfl) (pv 6) (qa7 qae) qbm) qac))))))))) (qad (qah qbg)) qak)
   (qab (qaA (PW.pt (qcB (qai (qav (K:=K) rfl hr.units0) (qaw (qaO (K:=K) rfl) (pv 6) qae (λ_ _=>rfl)) qaq (qao _)) (qbO (qbD (qa9 (pec C_30 hr (qaa (pv 5) (qaa (pv 4) (qaa (qaS (qkF (K:=K) rfl) (pv 6) (qa7 qae) qbm) qac))))))))) (qad (qah qbg)) qak)
   (qab (qaA (qai (qav (K:=K) rfl hr.units0) (qaw (qaO (K:=K) rfl) (pv 7) qae (λ_ _=>rfl)) qaq (qao _)) (qad (qah (qih (qec (qav (K:=K) rfl hr.units0) (qaw (qaO (K:=K) rfl) (pv 6) qae (λ_ _=>rfl)) qaq (qao _)) (qih (qec (qav (K:=K) rfl hr.units0) (qas (qaB (K:=K) rfl) (by rfl) T.n_len PySem.boot_len (qaa (pv 7) qac)) qae (qao _)) (qju (pec C_31 hr (qaa (pv 5) (qaa (pv 4) (qaa (qaw (qaO (K:=K) rfl) (pv 7) qae (λ_ _=>rfl)) (qaa (qaw (qaO (K:=K) rfl) (pv 7) qae (λ_ _=>rfl)) qac)))))))))) qak)
   (qab (qaA (PW.pt (qf7 (qai (qbW (K:=K) rfl hr.units0) (qaw (qaO (K:=K) rfl) (pv 7) qae (λ_ _=>rfl)) qaq (qao _)) (qdd (qai (qbW (K:=K) rfl hr.units0) (qaw (qaO (K:=K) rfl) (pv 6) qae (λ_ _=>rfl)) qaq (qao _))))) (qad (qah qbg)) qak)
   (qad (qah (pec C_21 hr (qaa (pv 5) (qaa (pv 4) (qaa (qaS (qkF (K:=K) rfl) (pv 7) (qa7 qae) qbm) (qaa (pv 6) qac))))))))))))))))))),?_⟩
 refine rdg (σ':=[some x0,none,none,none,none,none,none,none]) rfl ?_;obtain⟨a,ns,rfl,hS,hlen,q⟩:=h;refine qbb (λσ' H'=>∃(m:Nat) (pA:Addr) (A:List Nat),m<=5/\qar H H'/\H' pA=some (.lst (nV A))/\A.Pairwise (· < ·)/\(∀b∈A,b<2^m)/\A.length<=63/\((qrs 63 ns).getD 2 0%2=0->∃(W:List Nat) (bar:Int),W.length=m/\∀s,s<2^m->Fam.sayP A s=Fam.heavy W bar s)/\σ'=[some (.ref a),some (.int (m:Nat)),some (.ref pA),none,none,none,none,none]) ?_ λN hN=>?_;rotate_left
 . (try walk_at "rd")
   exact⟨_,rfl,a,ns,rfl,hS,hlen,λt pA m A H1 hm s1 ft fA rA bA lA hH=>⟨t,rfl,_,SqT.of ft,rfl,_,_,rfl,_,_,rfl,rfl,hN _ _ ⟨m,pA,A,hm,s1,fA,rA,bA,lA,hH,rfl⟩⟩⟩
 rintro σ' H1 ⟨m,pA,A,hm,s1,fA,rA,bA,lA,hH,rfl⟩;refine qbb (λσ' H'=>∃(pc:Addr) (cs:List Nat),qar H1 H'/\H' pc=some (.lst (nV cs))/\cs.length=63/\cs=qrs 63 ns/\σ'=[some (.ref a),some (.int (m:Nat)),some (.ref pA),some (.ref pc),none,none,none,none]) ?_ λN hN=>?_;rotate_left
 . (try walk_at "rd")
   exact⟨_,_,rfl,a,ns,63,rfl,s1.seq hS,hlen,rfl,by omega,λpc cs H2 hpc s2 fc lc ec=>hN _ _ ⟨pc,cs,s2,fc,lc,ec,rfl⟩⟩
 rintro σ' H2 ⟨pc,cs,s2,fc,lc,ec,rfl⟩;rw[<-ec] at hH;clear ec hS;have fA:=s2 _ _ fA;obtain⟨c,at2⟩:∃c,cs[2]?=some c:=⟨_,yck (show 2<cs.length by omega)⟩;have g2:cs.getD 2 0=c:=by rw[ycj,at2];rfl
 rw[g2] at hH;refine qbb (λσ' H'=>∃(p:Addr) (ws:List Str),ws.length=m/\Tx.Wds ws/\qar H2 H'/\H' p=some (.lst (sV ws))/\σ'=[some (.ref a),some (.int (ws.length:Nat)),some (.ref pA),some (.ref pc),some (.ref p),none,none,none]) ?_ λN hN=>?_;rotate_left
 . (try walk_at "rd")
   refine qaF (SqL.of fc) (qd1 at2) ?_
   (try walk_at "rd")
   exact⟨⟨by decide,by decide⟩,_,_,rfl,c/40,m,rfl,rfl,by omega,λp ws H3 hp3 s3 f1 hw hl=>hN _ _ ⟨p,ws,hl,hw,s3,f1,by rw[hl]⟩⟩
 rintro σ' H3 ⟨p,ws,rfl,hw,s3,f1,rfl⟩;have fc:=s3 _ _ fc;have fA:=s3 _ _ fA;have hA:Fml ws.length A:=⟨rA,bA,by omega⟩;refine qbb (λσ' H'=>∃(d pk:Addr),qar H3 H'/\qda cD H' d pk ws []/\σ'=[some (.ref a),some (.int (ws.length:Nat)),some (.ref pA),some (.ref pc),some (.ref p),some (.ref d),none,none]) ?_ λN hN=>?_;rotate_left
 . (try walk_at "rd")
   refine⟨rfl,_,p,ws,rfl,rfl,SqL.of f1,qaU (M:=8) (N:=8) (λy hy=>(hw.wd y hy).2.1) hw.few (by rw[Tx.lit_space];decide) (by decide),λd dx hd hdx hne=>⟨_,_,rfl,d,dx,ws,rfl,qag,rfl,hw,λpk H5 hpk D5 s5=>⟨rfl,?_⟩⟩⟩;have t5:qar H3 H5:=λb o e=>s5 b o (by rw[qay (qaV e hd),qay (qaV e hdx)];exact e) (qaV e hd);exact hN _ _ ⟨d,pk,t5,D5,rfl⟩
 rintro σ' H5 ⟨d,pk,t5,D5,rfl⟩;have f1:=t5 _ _ f1;have fA:=t5 _ _ fA;have fc:=t5 _ _ fc;clear s1 s2 s3 t5;have h8:=hw.few;have fAl:=Tx.fT_len hw hA.lt (by have:=hA.few;omega);have zz:100000<=sizeLine:=by decide
 have l6a:(Str.ofString "let a ").length=6:=by decide +kernel
 have wa:Tx.Wd "a" := ⟨by decide +kernel,by decide +kernel,by decide +kernel⟩;obtain⟨kv5,c5,_⟩:=D5.dc;have npk:p≠pk:=λe=>by rw[e,c5] at f1;cases f1
 have nck:pc≠pk:=λe=>by rw[e,c5] at fc;cases fc
 obtain⟨dx5,pw5,o5,_⟩:=D5.ob;refine qbb (λσ' H'=>∃M,H' p=some (.lst (sV ws))/\H' pc=some (.lst (nV cs))/\qda cD H' d pk ws M/\M.lookup ("a" : Str)=some A/\σ'=[some (.ref a),some (.int (ws.length:Nat)),some (.ref pA),some (.ref pc),some (.ref p),some (.ref d),none,none]) ?_ λN hN=>?_;rotate_left
 . (try walk_at "rd")
   refine⟨dx5,_,o5,qcs _ _ (by decide +kernel) (by decide +kernel),_,_,rfl,p,pA,ws,A,rfl,f1,hw,rfl,fA,hA.lt,hA.few,λH6 s6=>⟨_,rfl,by omega,_,_,rfl,d,pk,ws,[],_, "let",["a",Tx.fT ws A],["new", "text"],[.nm "a",.fm A],rfl,D5.same s6,rfl,qri hw hA (by decide +kernel) (by decide +kernel) (by decide +kernel),qnk.cons (.new wa) (qj3 (.text hA)),.inl ⟨"a",[.fm A],A,rfl,rfl,.let,hA,.inr (by decide),λH7 s7 D7=>?_⟩⟩⟩
   (try walk_at "rd")
   exact⟨false,by simp,qcA (hN _ _ ⟨_,s7 _ _ (s6 _ _ f1) npk,s7 _ _ (s6 _ _ fc) nck,D7,by rw[qcy,if_pos rfl],rfl⟩)⟩
 clear f1 fc fA o5 c5 D5;rintro σ' H7 ⟨M,f1,fc,D7,l_a,rfl⟩;refine qbb (λσ' H'=>∃(pt:Addr) (v:Vt),VtR ws.length A v/\qar H7 H'/\H' pt=some (.lst (sV (vtP ws v)))/\σ'=[some (.ref a),some (.int (ws.length:Nat)),some (.ref pA),some (.ref pc),some (.ref p),some (.ref d),some (.ref pt),none]) ?_ λN hN=>?_;rotate_left
 . obtain⟨dx7,pw7,o7,_⟩:=D7.ob
   (try walk_at "rd")
   refine⟨dx7,_,o7,qcs _ _ (by decide +kernel) (by decide +kernel),_,_,rfl,d,pk,ws,M,_, "weights",["a"],["family"],[.fm A],rfl,D7,rfl,(show Prt (Str.ofString "weights a") "weights" ["a"] ["family"] from⟨by decide +kernel,by decide +kernel,by decide +kernel,rfl,by decide +kernel⟩),qj3 (.fam l_a),.inr ⟨"family",_,rfl,by decide +kernel,.weights hA hm (by omega),λz H8 hz s8=>?_⟩⟩;obtain⟨v,hR,rfl⟩:=hz;have pv:=qsj hw (qmk hR);refine⟨rfl,_,_,rfl,rfl,by rw[Tx.lit_space];rfl,by rw[qmK];exact ybn pv.len (by decide),λpt hpt=>?_⟩;rw[show _root_.PySem.Txt.split (vtT ws v) (Str.ofString " ")=vtP ws v from by rw[qmK];exact pv.split];exact hN _ _ ⟨pt,v,hR,s8.trans (qar.new hpt),qag,rfl⟩
 rintro σ' G8 ⟨pt,v,hR,t8,fP,rfl⟩;have D8:=D7.same t8;have f1:=t8 _ _ f1;have fc:=t8 _ _ fc;clear D7 t8;have nt:∀u w:Str,u≠w->decide (V.str u=V.str w)=false:=λu w h=>decide_eq_false λe=>h (V.str.inj e);refine qbb (λσ' H'=>∃(po:Addr) (l:List Str),qar G8 H'/\H' po=some (.lst (sV l))/\((∃x y s u:Nat,x<y/\y<ws.length/\Fam.part ws.length (Fam.sayP A) x y=some s/\Fam.part ws.length (Fam.sayP A) y x=some u/\l=[("apart" : Str),ws.getD x Str.empty,ws.getD y Str.empty])\/qit ws.length (Fam.sayP A) ws.length 0/\l=("ranks" : Str)::(rkd (Fam.trns ws.length (Fam.sayP A))).map (alT ws))/\σ'=[some (.ref a),some (.int (ws.length:Nat)),some (.ref pA),some (.ref pc),some (.ref p),some (.ref d),some (.ref pt),some (.ref po)]) ?_ λN hN=>?_;rotate_left
 . (try walk_at "rd")
   obtain⟨dx8,pw8,o8,_⟩:=D8.ob;refine⟨dx8,_,o8,qcs _ _ (by decide +kernel) (by decide +kernel),_,_,rfl,d,pk,ws,M,_, "ranks",["a"],["family"],[.fm A],rfl,D8,rfl,(show Prt (Str.ofString "ranks a") "ranks" ["a"] ["family"] from⟨by decide +kernel,by decide +kernel,by decide +kernel,rfl,by decide +kernel⟩),qj3 (.fam l_a),.inr ⟨"family",_,rfl,by decide +kernel,.ranks hA,λz H9 hz s9=>?_⟩⟩
   obtain⟨l,rfl,pr,hl⟩:∃l,z=_root_.PySem.Txt.join " " l/\Prs l/\((∃x y s u:Nat,x<y/\y<ws.length/\Fam.part ws.length (Fam.sayP A) x y=some s/\Fam.part ws.length (Fam.sayP A) y x=some u/\l=[("apart" : Str),ws.getD x Str.empty,ws.getD y Str.empty])\/qit ws.length (Fam.sayP A) ws.length 0/\l=("ranks" : Str)::(rkd (Fam.trns ws.length (Fam.sayP A))).map (alT ws)):=by
     rcases hz with⟨x,y,s,u,hxy,hy,_,e1,e2,rfl⟩ | ⟨hno,rfl⟩
     . refine⟨_,rfl,⟨by simp,by simp,λw hm=>?_⟩,.inl ⟨x,y,s,u,hxy,hy,e1,e2,rfl⟩⟩
       simp only[ybf,ydz,or_false] at hm;rcases hm with rfl | rfl | rfl
       . exact⟨by decide +kernel,by decide +kernel⟩
       . exact qth (qku hw (by omega))
       . exact qth (qku hw hy)
     . exact⟨_,rfl,qsh hw (Fam.sayP A),.inr ⟨hno,rfl⟩⟩
   refine⟨rfl,_,_,rfl,rfl,by rw[Tx.lit_space];rfl,ybn pr.len (by decide),λpo hpo=>?_⟩;rw[pr.split];exact hN _ _ ⟨po,l,s9.trans (qar.new hpo),qag,hl,rfl⟩
 rintro σ' G9 ⟨po,l,t9,fO,hl,rfl⟩;have fP:=t9 _ _ fP;have f1:=t9 _ _ f1;have fc:=t9 _ _ fc;have D9:=D8.same t9;clear D8 t9
 have trd:∀ys ns,v = .t ys ns->(∃x y s u:Nat,x<y/\y<ws.length/\Fam.part ws.length (Fam.sayP A) x y=some s/\Fam.part ws.length (Fam.sayP A) y x=some u/\ys.Perm [s|||2^x,u|||2^y]/\ns.Perm [s|||2^y,u|||2^x]):=λys ns e=>by
   subst e;obtain⟨x,y,s,u,hxy,hy,_,e1,e2,q1,q2,_,_⟩:=hR;exact⟨x,y,s,u,hxy,hy,e1,e2,q1,q2⟩
 refine qbb (λσ' H'=>G9=H'/\σ'=[some (.ref a),some (.int (ws.length:Nat)),some (.ref pA),some (.ref pc),some (.ref p),some (.ref d),some (.ref pt),some (.ref po)]) ?_ λN hN=>?_;rotate_left
 . (try walk_at "rd")
   cases v with
   | w N b=>exact qaF (SqL.of fP) (qbh (i:=0) rfl) ⟨_,.inl ⟨rfl,rfl⟩,false,congrArg V.bl (nt _ _ (by decide +kernel)),qcA (hN _ _ ⟨rfl,rfl⟩)⟩
   | t ys ns =>
     obtain⟨x,y,s,u,hxy,hy,e1,e2,_⟩:=trd _ _ rfl;have hx:x<ws.length:=by omega
     have odd:¬(c:Int)%2=0:=λh=>by
       obtain⟨W,bar,lW,hv⟩:=hH (by omega);rw[Fam.part_congr hx hy hv] at e1;rw[Fam.part_congr hy hx hv] at e2;rcases Nat.le_total (W.getD x 0) (W.getD y 0) with z | z
       . rw[Fam.vote_part (by omega) hx hy z] at e1
         cases e1
       . rw[Fam.vote_part (by omega) hy hx z] at e2
         cases e2
     refine qaF (SqL.of fP) (qbh (i:=0) rfl) ⟨_,.inl ⟨rfl,rfl⟩,true,congrArg V.bl (decide_eq_true rfl),qeK ?_⟩;refine qaF (SqL.of fc) (qd1 at2) ?_
     (try walk_at "rd")
     refine⟨by decide,?_⟩;rw[if_neg odd];exact hN _ _ ⟨rfl,rfl⟩
 rintro σ' H' ⟨rfl,rfl⟩;refine qbb (λσ' H'=>qar G9 H'/\σ'=[some (.ref a),some (.int (ws.length:Nat)),some (.ref pA),some (.ref pc),some (.ref p),some (.ref d),some (.ref pt),some (.ref po)]) ?_ λN hN=>?_;rotate_left
 . (try walk_at "rd")
   cases v with
   | w N b =>
     obtain⟨hno,hW,hf⟩:=hR;obtain⟨lN,nN,nb⟩:=qiR hW;refine qaF (SqL.of fP) (qbh (i:=0) rfl) ⟨_,.inl ⟨rfl,rfl⟩,true,congrArg V.bl (decide_eq_true rfl),qeK ?_⟩;refine⟨pt,_,rfl,SqL.of fP,λq1 hq1=>?_⟩;rw[show some (1:Int)=some ((1:Nat):Int) from rfl,qbY,show(sV (vtP ws (.w N b))).drop 1=sV ((N++[b]).map qkH) from rfl];refine⟨_,_,_,rfl,d,pk,p,q1,ws,M,A,N,b,rfl,rfl,rfl,D9.same (qar.new hq1),qar.new hq1 _ _ f1,l_a,qag,lN,λn hn=>ybn (nN n hn) (by decide),by omega,hf,λH11 s11=>⟨true,rfl,?_⟩⟩;rw[if_neg (by decide)];exact hN _ _ ⟨(qar.new hq1).trans s11,rfl⟩
   | t ys ns=>exact qaF (SqL.of fP) (qbh (i:=0) rfl) ⟨_,.inl ⟨rfl,rfl⟩,false,congrArg V.bl (nt _ _ (by decide +kernel)),qcA (hN _ _ ⟨qar.refl _,rfl⟩)⟩
 rintro σ' H10 ⟨t10,rfl⟩;have fP:=t10 _ _ fP;have fO:=t10 _ _ fO;have f1:=t10 _ _ f1;have D10:=D9.same t10;clear D9 t10 fc;refine qbb (λσ' H'=>qar H10 H'/\σ'=[some (.ref a),some (.int (ws.length:Nat)),some (.ref pA),some (.ref pc),some (.ref p),some (.ref d),some (.ref pt),some (.ref po)]) ?_ λN hN=>?_;rotate_left
 . (try walk_at "rd")
   cases v with
   | w N b=>exact qaF (SqL.of fP) (qbh (i:=0) rfl) ⟨_,.inl ⟨rfl,rfl⟩,false,congrArg V.bl (nt _ _ (by decide +kernel)),qcA (hN _ _ ⟨qar.refl _,rfl⟩)⟩
   | t ys ns =>
     obtain⟨x,y,s,u,hxy,hy,e1,e2,q1,q2⟩:=trd _ _ rfl;obtain⟨k1,k2,k3,k4⟩:=qnm (show x<ws.length by omega) hy e1 e2;refine qaF (SqL.of fP) (qbh (i:=0) rfl) ⟨_,.inl ⟨rfl,rfl⟩,true,congrArg V.bl (decide_eq_true rfl),qeK ?_⟩;refine⟨pt,_,rfl,SqL.of fP,λq3 hq3=>?_⟩;rw[show some (1:Int)=some ((1:Nat):Int) from rfl,qbY,show(sV (vtP ws (.t ys ns))).drop 1=sV ((ys.map (Tx.sT ws)++[("/" : Str)])++ns.map (Tx.sT ws)) from rfl];refine⟨_,_,_,rfl,d,pk,p,q3,ws,M,A,ys,ns,rfl,rfl,rfl,D10.same (qar.new hq3),qar.new hq3 _ _ f1,l_a,qag,q1.length_eq,q2.length_eq,λz hz=>?_,λz hz=>?_,λk=>qkR (by omega) e1 e2 q1 q2 k,λH11 s11=>⟨true,rfl,?_⟩⟩
     . have:=q1.mem_iff.mp hz
       simp only[ybf,ydz,or_false] at this;rcases this with rfl | rfl
       . exact k1
       . exact k2
     . have:=q2.mem_iff.mp hz
       simp only[ybf,ydz,or_false] at this;rcases this with rfl | rfl
       . exact k3
       . exact k4
     rw[if_neg (by decide)];exact hN _ _ ⟨(qar.new hq3).trans s11,rfl⟩
 rintro σ' H11 ⟨t11,rfl⟩;have fP:=t11 _ _ fP;have fO:=t11 _ _ fO;have f1:=t11 _ _ f1;have D11:=D10.same t11;clear D10 t11
 (try walk_at "rd")
 cases v with
 | w N b =>
   obtain⟨hno,hW,hf⟩:=hR;rcases hl with⟨x,y,s,u,hxy,hy,e1,e2,rfl⟩ | ⟨_,rfl⟩
   . exact(qmp hxy hy hno e1 e2).elim
   refine qaF (SqL.of fO) (qbh (i:=0) rfl) ⟨_,.inl ⟨rfl,rfl⟩,false,congrArg V.bl (nt _ _ (by decide +kernel)),qcA ?_⟩;refine qaF (SqL.of fO) (qbh (i:=0) rfl) ⟨_,.inl ⟨rfl,rfl⟩,false,congrArg V.bl (by rw[decide_eq_true rfl];rfl),qcA ?_⟩;refine qaF (SqL.of fP) (qbh (i:=0) rfl) ⟨_,.inl ⟨rfl,rfl⟩,false,congrArg V.bl (by rw[decide_eq_true rfl];rfl),qcA ?_⟩;refine⟨po,_,rfl,SqL.of fO,λq2 hq2=>?_⟩;rw[show some (1:Int)=some ((1:Nat):Int) from rfl,qbY,show(sV (("ranks" : Str)::(rkd (Fam.trns ws.length (Fam.sayP A))).map (alT ws))).drop 1=sV ((rkd (Fam.trns ws.length (Fam.sayP A))).map (alT ws)) from rfl];exact⟨_,_,_,_,rfl,d,pk,p,q2,pt,ws,M,A,N,b,rfl,rfl,rfl,rfl,D11.same (qar.new hq2),qar.new hq2 _ _ f1,l_a,qag,qar.new hq2 _ _ fP,hW,λH13 _=>q _⟩
 | t ys ns =>
   obtain⟨x,y,s,u,hxy,hy,e1,e2,_⟩:=trd _ _ rfl;rcases hl with⟨x',y',s',u',hxy',hy',e1',e2',rfl⟩ | ⟨hno',rfl⟩
   rotate_left
   . exact(qmp hxy hy hno' e1 e2).elim
   refine qaF (SqL.of fO) (qbh (i:=0) rfl) ⟨_,.inl ⟨rfl,rfl⟩,true,congrArg V.bl (decide_eq_true rfl),qeK ?_⟩;refine qaF (SqL.of fP) (qbh (i:=0) rfl) ⟨_,.inl ⟨rfl,rfl⟩,true,congrArg V.bl (decide_eq_true rfl),qeK ?_⟩;refine⟨_,.inl (SqL.of fO),?_⟩;rw[if_pos (by simp[sV])];exact qaF (SqL.of fO) (qbh (i:=1) rfl) (qaF (SqL.of fO) (qbh (i:=2) rfl) ⟨_,_,_,_,rfl,d,pk,p,ws,M,A,x',y',s',u',rfl,rfl,rfl,rfl,D11,f1,l_a,hxy',hy',e1',e2',λH13 _=>q _⟩)
end
structure Dfn (K:W.Frag)(x:Str)(s:Stmt)(f:Addr)(fd:FuncData):Prop where
 a:W.nsIn K mainGlobals x=some (some (.ref f))
 F:Fun K x x s f fd
structure Dfm (K:W.Frag)(C:Addr)(m q:Str)(s:Stmt)(f:Addr)(fd:FuncData):Prop where
 a:W.findIn K (.ref C) m=some (some (.ref f))
 i:W.isFn K (.ref f)=true
 F:Fun K m q s f fd
theorem dn {K:W.Frag}{x:Str}{st:Stmt}{f:Addr}{oc:Value}{od an:Option Addr}{osl:Array (Option Value)}{kV doc pm cdv ct:Value}(a:W.nsIn K mainGlobals x=some (some (.ref f)))(l:K.lookup f=some ⟨oc,od,.func (W.fnOf x x (qb2 st) (qbQ st) (qaf st) .none kV doc pm an cdv ct),osl⟩)(c:W.codeIn K cdv x=true)(k:W.keepIn K (.ref f)=true):Dfn K x st f (W.fnOf x x (qb2 st) (qbQ st) (qaf st) .none kV doc pm an cdv ct):=⟨a,qkS l c k⟩
theorem dm {K:W.Frag}{C:Addr}{m q:Str}{st:Stmt}{f:Addr}{oc:Value}{od an:Option Addr}{osl:Array (Option Value)}{kV doc pm cdv ct:Value}(a:W.findIn K (.ref C) m=some (some (.ref f)))(i:W.isFn K (.ref f)=true)(l:K.lookup f=some ⟨oc,od,.func (W.fnOf m q (qb2 st) (qbQ st) (qaf st) .none kV doc pm an cdv ct),osl⟩)(c:W.codeIn K cdv q=true)(k:W.keepIn K (.ref f)=true):Dfm K C m q st f (W.fnOf m q (qb2 st) (qbQ st) (qaf st) .none kV doc pm an cdv ct):=⟨a,i,qkS l c k⟩
theorem all_mk {l:W.OpenLaw}{w:World}{K:W.Frag}{h:Heap}{mg:Str->Option Value}{fa:Addr}(X:K.In h)(G:h.Ns mainGlobals mg)(hfa:mg "law" = some (.ref fa))
 {cD aW:Addr}
 {f1 f2 f3 f4 f5 f6 f7 f8 f9 f10 f11 f12 f13 f14 f15 f16 f17 f18 f19 f20 f21 f22 f23 f24 f25 f26 f27 f28 f29 f30 f31 f32 f33 f34 f35 f36 f37 f38 f39 f40 f41 f42 f43 f44 f45 f46 f47 f48 f49 f50 f51 f52 f53 f54 f55 f56 f57 f58 f59 f60 f61 f62 f63 f64 f65 f66 f67 f68 f69 f70 f71 f72 f73 f74:Addr}{d1 d2 d3 d4 d5 d6 d7 d8 d9 d10 d11 d12 d13 d14 d15 d16 d17 d18 d19 d20 d21 d22 d23 d24 d25 d26 d27 d28 d29 d30 d31 d32 d33 d34 d35 d36 d37 d38 d39 d40 d41 d42 d43 d44 d45 d46 d47 d48 d49 d50 d51 d52 d53 d54 d55 d56 d57 d58 d59 d60 d61 d62 d63 d64 d65 d66 d67 d68 d69 d70 d71 d72 d73 d74:FuncData}
 (D1:Dfn K "is_whole" qea f1 d1)
 (D2:Dfn K "_law_cells" qcK f2 d2)
 (D3:Dfn K "_law_family" qcp f3 d3)
 (D4:Dfn K "_law_drawn" qcP f4 d4)
 (D5:Dfn K "_law_words" qc5 f5 d5)
 (D6:Dfn K "_law_set_text" qbN f6 d6)
 (D7:Dfn K "_law_text" qdD f7 d7)
 (D8:Dfn K "_law_set" qeh f8 d8)
 (D9:Dfn K "is_set" qgJ f9 d9)
 (D10:Dfn K "is_family" qdz f10 d10)
 (D11:Dfn K "names_in" qev f11 d11)
 (D12:Dfn K "set_of" qgH f12 d12)
 (D13:Dfn K "parted" qg0 f13 d13)
 (D14:Dfn K "is_word" qe7 f14 d14)
 (D15:Dfn K "read_names" qc0 f15 d15)
 (D16:Dfn K "read_name" qdC f16 d16)
 (D17:Dfn K "show_set" qef f17 d17)
 (D18:Dfn K "show_family" qcu f18 d18)
 (D19:Dfn K "read_set" qeq f19 d19)
 (D20:Dfn K "read_family" qcr f20 d20)
 (D21:Dfn K "holds" qiN f21 d21)
 (D22:Dfn K "meets" qjb f22 d22)
 (D23:Dfn K "rest" qkG f23 d23)
 (D24:Dfn K "says" qnd f24 d24)
 (D25:Dfn K "least" qiY f25 d25)
 (D26:Dfn K "rests" qiT f26 d26)
 (D27:Dfn K "first_missed" qb8 f27 d27)
 (D28:Dfn K "hits" qlX f28 d28)
 (D29:Dfn K "always_in" qdm f29 d29)
 (D30:Dfn K "always_out" qcJ f30 d30)
 (D31:Dfn K "either" qgD f31 d31)
 (D32:Dfn K "both" qlt f32 d32)
 (D33:Dfn K "first_met_by_alone" qa5 f33 d33)
 (D34:Dfn K "looked" qgR f34 d34)
 (D35:Dfn K "first_left_out" qbA f35 d35)
 (D36:Dfn K "held" qmL f36 d36)
 (D37:Dfn K "table_of" qeb f37 d37)
 (D38:Dfn K "noes_by" qfw f38 d38)
 (D39:Dfn K "first_parting" qbP f39 d39)
 (D40:Dfn K "compared_in" qcw f40 d40)
 (D41:Dfn K "compared" qer f41 d41)
 (D42:Dfn K "turned_by" qdw f42 d42)
 (D43:Dfn K "turns" qjm f43 d43)
 (D44:Dfn K "show_numbers" qb7 f44 d44)
 (D45:Dfn K "show_word_and_sets" qa8 f45 d45)
 (D46:Dfn K "show_looked" qcq f46 d46)
 (D47:Dfn K "ranked" qgF f47 d47)
 (D48:Dfn K "ranks" qiX f48 d48)
 (D49:Dfn K "show_alike" qc3 f49 d49)
 (D50:Dfn K "show_ranks" qc6 f50 d50)
 (D51:Dfn K "weight_of" qdr f51 d51)
 (D52:Dfn K "traded" qgM f52 d52)
 (D53:Dfn K "bar_between" qck f53 d53)
 (D54:Dfn K "falling_lists" qbk f54 d54)
 (D55:Dfn K "given_out" qdp f55 d55)
 (D56:Dfn K "weighed" qfQ f56 d56)
 (D57:Dfn K "by_weights" qcL f57 d57)
 (D58:Dfn K "show_weights" qb3 f58 d58)
 (D59:Dfn K "compared_unlike" qbp f59 d59)
 (D60:Dfn K "new_name" qew f60 d60)
 (D61:Dfn K "parts_of" qeo f61 d61)
 (D62:Dfm K cD "__init__" "Desk.__init__" qbU f62 d62)
 (D63:Dfm K cD "family_by" "Desk.family_by" qby f63 d63)
 (D64:Dfm K cD "look_for_room" "Desk.look_for_room" qa4 f64 d64)
 (D65:Dfm K cD "thing_of" "Desk.thing_of" qbK f65 d65)
 (D66:Dfn K "made" qmG f66 d66)
 (D67:Dfn K "answered" qel f67 d67)
 (D68:Dfm K cD "say" "Desk.say" qes f68 d68)
 (D69:Dfn K "_law_made" qdn f69 d69)
 (D70:Dfn K "_law_says" qdt f70 d70)
 (D71:Dfn K "_law_weights" qb5 f71 d71)
 (D72:Dfn K "_law_trade" qcX f72 d72)
 (D73:Dfn K "_law_apart" qcW f73 d73)
 (D74:Dfn K "_law_ranked" qcx f74 d74)
 {f_law:Addr}{od_law an_law:Option Addr}{sl_law:Array (Option Value)}{oc_law kV_law dc_law pm_law cd_law ct_law:Value}(a_law:W.nsIn K mainGlobals "law" = some (some (.ref f_law)))(l_law:K.lookup f_law=some ⟨oc_law,od_law,.func (W.fnOf "law" "law" (qb2 qhc) (qbQ qhc) (qaf qhc) .none kV_law dc_law pm_law an_law cd_law ct_law),sl_law⟩)(c_law:W.codeIn K cd_law "law" = true)(k_law:W.keepIn K (.ref f_law)=true)
 (z_isinstance:W.nsIn K mainGlobals "isinstance" = some none)
 (z_int:W.nsIn K mainGlobals "int" = some none)
 (z_bool:W.nsIn K mainGlobals "bool" = some none)
 (z_len:W.nsIn K mainGlobals "len" = some none)
 (z_sum:W.nsIn K mainGlobals "sum" = some none)
 (z_sorted:W.nsIn K mainGlobals "sorted" = some none)
 (z_set:W.nsIn K mainGlobals "set" = some none)
 (z_range:W.nsIn K mainGlobals "range" = some none)
 (z_list:W.nsIn K mainGlobals "list" = some none)
 (z_str:W.nsIn K mainGlobals "str" = some none)
 (z_all:W.nsIn K mainGlobals "all" = some none)
 (z_reversed:W.nsIn K mainGlobals "reversed" = some none)
 (z_enumerate:W.nsIn K mainGlobals "enumerate" = some none)
 (z_max:W.nsIn K mainGlobals "max" = some none)
 (z_min:W.nsIn K mainGlobals "min" = some none)
 (z_zip:W.nsIn K mainGlobals "zip" = some none)
 {t_MOST_SETS:Tok}(v_MOST_SETS:W.nsIn K mainGlobals "MOST_SETS" = some (some (.int 70 t_MOST_SETS)))
 {t_MOST_LETTERS:Tok}(v_MOST_LETTERS:W.nsIn K mainGlobals "MOST_LETTERS" = some (some (.int 8 t_MOST_LETTERS)))
 {t_MOST_NAMES:Tok}(v_MOST_NAMES:W.nsIn K mainGlobals "MOST_NAMES" = some (some (.int 8 t_MOST_NAMES)))
 {t_NO_SETS:Tok}(v_NO_SETS:W.nsIn K mainGlobals "NO_SETS" = some (some (.str "none" t_NO_SETS)))
 {t_NO_NAMES:Tok}(v_NO_NAMES:W.nsIn K mainGlobals "NO_NAMES" = some (some (.str "-" t_NO_NAMES)))
 {t_MOST_WEIGHT:Tok}(v_MOST_WEIGHT:W.nsIn K mainGlobals "MOST_WEIGHT" = some (some (.int 5 t_MOST_WEIGHT)))
 {t_MOST_VOTERS:Tok}(v_MOST_VOTERS:W.nsIn K mainGlobals "MOST_VOTERS" = some (some (.int 5 t_MOST_VOTERS)))
 {t_MOST_KEPT:Tok}(v_MOST_KEPT:W.nsIn K mainGlobals "MOST_KEPT" = some (some (.int 20 t_MOST_KEPT)))
 {tW1 tW2 tW3 tW4 tW5 tW6 tW7 tW8 tW9 tW10 tW11 tW12 tW13 tW14 tW15:Addr}{hW1 hW2 hW3 hW4 hW5 hW6 hW7 hW8 hW9 hW10 hW11 hW12 hW13 hW14 hW15:Int}{kW1 kW2 kW3 kW4 kW5 kW6 kW7 kW8 kW9 kW10 kW11 kW12 kW13 kW14 kW15:Tok}{ep:Nat}(gD:W.nsIn K mainGlobals "Desk" = some (some (.ref cD)))(gW:W.nsIn K mainGlobals "WANTED" = some (some (.ref aW)))(lW:K.lookup aW=some ⟨.type "dict",none,.dict #[⟨hW1,.str "let" kW1,.ref tW1⟩,⟨hW2,.str "hits" kW2,.ref tW2⟩,⟨hW3,.str "rests" kW3,.ref tW3⟩,⟨hW4,.str "either" kW4,.ref tW4⟩,⟨hW5,.str "both" kW5,.ref tW5⟩,⟨hW6,.str "in" kW6,.ref tW6⟩,⟨hW7,.str "out" kW7,.ref tW7⟩,⟨hW8,.str "show" kW8,.ref tW8⟩,⟨hW9,.str "says" kW9,.ref tW9⟩,⟨hW10,.str "look" kW10,.ref tW10⟩,⟨hW11,.str "held" kW11,.ref tW11⟩,⟨hW12,.str "compare" kW12,.ref tW12⟩,⟨hW13,.str "turns" kW13,.ref tW13⟩,⟨hW14,.str "ranks" kW14,.ref tW14⟩,⟨hW15,.str "weights" kW15,.ref tW15⟩] ep,#[]⟩)(nW:(aW==sysModules)=false)
 {oW1:Option Addr}{nn1:Nat}{sW1:Array (Option Value)}{u1_0 u1_1:Tok}(eW1:hW1=hashStr w "let")(lW1:K.lookup tW1=some ⟨.type "tuple",oW1,.seq #[.str "new" u1_0,.str "text" u1_1] nn1,sW1⟩)
 {oW2:Option Addr}{nn2:Nat}{sW2:Array (Option Value)}{u2_0 u2_1:Tok}(eW2:hW2=hashStr w "hits")(lW2:K.lookup tW2=some ⟨.type "tuple",oW2,.seq #[.str "new" u2_0,.str "family" u2_1] nn2,sW2⟩)
 {oW3:Option Addr}{nn3:Nat}{sW3:Array (Option Value)}{u3_0 u3_1:Tok}(eW3:hW3=hashStr w "rests")(lW3:K.lookup tW3=some ⟨.type "tuple",oW3,.seq #[.str "new" u3_0,.str "family" u3_1] nn3,sW3⟩)
 {oW4:Option Addr}{nn4:Nat}{sW4:Array (Option Value)}{u4_0 u4_1 u4_2:Tok}(eW4:hW4=hashStr w "either")(lW4:K.lookup tW4=some ⟨.type "tuple",oW4,.seq #[.str "new" u4_0,.str "family" u4_1,.str "family" u4_2] nn4,sW4⟩)
 {oW5:Option Addr}{nn5:Nat}{sW5:Array (Option Value)}{u5_0 u5_1 u5_2:Tok}(eW5:hW5=hashStr w "both")(lW5:K.lookup tW5=some ⟨.type "tuple",oW5,.seq #[.str "new" u5_0,.str "family" u5_1,.str "family" u5_2] nn5,sW5⟩)
 {oW6:Option Addr}{nn6:Nat}{sW6:Array (Option Value)}{u6_0 u6_1 u6_2:Tok}(eW6:hW6=hashStr w "in")(lW6:K.lookup tW6=some ⟨.type "tuple",oW6,.seq #[.str "new" u6_0,.str "family" u6_1,.str "name" u6_2] nn6,sW6⟩)
 {oW7:Option Addr}{nn7:Nat}{sW7:Array (Option Value)}{u7_0 u7_1 u7_2:Tok}(eW7:hW7=hashStr w "out")(lW7:K.lookup tW7=some ⟨.type "tuple",oW7,.seq #[.str "new" u7_0,.str "family" u7_1,.str "name" u7_2] nn7,sW7⟩)
 {oW8:Option Addr}{nn8:Nat}{sW8:Array (Option Value)}{u8_0:Tok}(eW8:hW8=hashStr w "show")(lW8:K.lookup tW8=some ⟨.type "tuple",oW8,.seq #[.str "family" u8_0] nn8,sW8⟩)
 {oW9:Option Addr}{nn9:Nat}{sW9:Array (Option Value)}{u9_0 u9_1:Tok}(eW9:hW9=hashStr w "says")(lW9:K.lookup tW9=some ⟨.type "tuple",oW9,.seq #[.str "family" u9_0,.str "set" u9_1] nn9,sW9⟩)
 {oW10:Option Addr}{nn10:Nat}{sW10:Array (Option Value)}{u10_0 u10_1:Tok}(eW10:hW10=hashStr w "look")(lW10:K.lookup tW10=some ⟨.type "tuple",oW10,.seq #[.str "family" u10_0,.str "set" u10_1] nn10,sW10⟩)
 {oW11:Option Addr}{nn11:Nat}{sW11:Array (Option Value)}{u11_0 u11_1:Tok}(eW11:hW11=hashStr w "held")(lW11:K.lookup tW11=some ⟨.type "tuple",oW11,.seq #[.str "family" u11_0,.str "family" u11_1] nn11,sW11⟩)
 {oW12:Option Addr}{nn12:Nat}{sW12:Array (Option Value)}{u12_0 u12_1 u12_2:Tok}(eW12:hW12=hashStr w "compare")(lW12:K.lookup tW12=some ⟨.type "tuple",oW12,.seq #[.str "family" u12_0,.str "name" u12_1,.str "name" u12_2] nn12,sW12⟩)
 {oW13:Option Addr}{nn13:Nat}{sW13:Array (Option Value)}{u13_0:Tok}(eW13:hW13=hashStr w "turns")(lW13:K.lookup tW13=some ⟨.type "tuple",oW13,.seq #[.str "family" u13_0] nn13,sW13⟩)
 {oW14:Option Addr}{nn14:Nat}{sW14:Array (Option Value)}{u14_0:Tok}(eW14:hW14=hashStr w "ranks")(lW14:K.lookup tW14=some ⟨.type "tuple",oW14,.seq #[.str "family" u14_0] nn14,sW14⟩)
 {oW15:Option Addr}{nn15:Nat}{sW15:Array (Option Value)}{u15_0:Tok}(eW15:hW15=hashStr w "weights")(lW15:K.lookup tW15=some ⟨.type "tuple",oW15,.seq #[.str "family" u15_0] nn15,sW15⟩)
 (pgD:W.plainGet K cD Str.empty=true)(hdD:W.hasDictIn K cD=true)(poD:W.plainOver K cD=true)(saD:W.findIn K (.ref cD) "__setattr__" = some (some (.builtin "object.__setattr__")))(nwD:W.findIn K (.ref cD) "words" = some none)(nkD:W.findIn K (.ref cD) "kept" = some none)(mkD:W.makesIn K cD=true)(kpD:W.keepIn K (.ref cD)=true) :
 ∃fd:FuncData,(∀(s:Shared) (v:Value),BindsTo s fd ⟨[v],[]⟩ [("_law_script",v)])/\∀base:Heap,K.In base->base.Ns mainGlobals mg->qaM l.prog w K mg base CX0 14 fa fd ["_law_script"] ((qmD K)):=by
 have e:=hfa.symm.trans (W.mg_of X G a_law);cases e;have T:Txt mg:=⟨W.mg_none_of X G z_isinstance,W.mg_none_of X G z_int,W.mg_none_of X G z_bool,W.mg_none_of X G z_len,W.mg_none_of X G z_sum,W.mg_none_of X G z_sorted,W.mg_none_of X G z_set,W.mg_none_of X G z_range,W.mg_none_of X G z_list,W.mg_none_of X G z_str,W.mg_none_of X G z_all,W.mg_none_of X G z_reversed,W.mg_none_of X G z_enumerate,W.mg_none_of X G z_max,W.mg_none_of X G z_min,W.mg_none_of X G z_zip,⟨_,W.mg_of X G v_MOST_SETS⟩,⟨_,W.mg_of X G v_MOST_LETTERS⟩,⟨_,W.mg_of X G v_MOST_NAMES⟩,⟨_,W.mg_of X G v_NO_SETS⟩,⟨_,W.mg_of X G v_NO_NAMES⟩,⟨_,W.mg_of X G v_MOST_WEIGHT⟩,⟨_,W.mg_of X G v_MOST_VOTERS⟩,⟨_,W.mg_of X G v_MOST_KEPT⟩⟩;have EW:qtu K w qiP [⟨hW1,.str "let" kW1,.ref tW1⟩,⟨hW2,.str "hits" kW2,.ref tW2⟩,⟨hW3,.str "rests" kW3,.ref tW3⟩,⟨hW4,.str "either" kW4,.ref tW4⟩,⟨hW5,.str "both" kW5,.ref tW5⟩,⟨hW6,.str "in" kW6,.ref tW6⟩,⟨hW7,.str "out" kW7,.ref tW7⟩,⟨hW8,.str "show" kW8,.ref tW8⟩,⟨hW9,.str "says" kW9,.ref tW9⟩,⟨hW10,.str "look" kW10,.ref tW10⟩,⟨hW11,.str "held" kW11,.ref tW11⟩,⟨hW12,.str "compare" kW12,.ref tW12⟩,⟨hW13,.str "turns" kW13,.ref tW13⟩,⟨hW14,.str "ranks" kW14,.ref tW14⟩,⟨hW15,.str "weights" kW15,.ref tW15⟩]:=⟨⟨_,_,by rw[eW1],qbM lW1 (by simp) (.cons ⟨_,rfl⟩ (.cons ⟨_,rfl⟩ .nil))⟩,⟨_,_,by rw[eW2],qbM lW2 (by simp) (.cons ⟨_,rfl⟩ (.cons ⟨_,rfl⟩ .nil))⟩,⟨_,_,by rw[eW3],qbM lW3 (by simp) (.cons ⟨_,rfl⟩ (.cons ⟨_,rfl⟩ .nil))⟩,⟨_,_,by rw[eW4],qbM lW4 (by simp) (.cons ⟨_,rfl⟩ (.cons ⟨_,rfl⟩ (.cons ⟨_,rfl⟩ .nil)))⟩,⟨_,_,by rw[eW5],qbM lW5 (by simp) (.cons ⟨_,rfl⟩ (.cons ⟨_,rfl⟩ (.cons ⟨_,rfl⟩ .nil)))⟩,⟨_,_,by rw[eW6],qbM lW6 (by simp) (.cons ⟨_,rfl⟩ (.cons ⟨_,rfl⟩ (.cons ⟨_,rfl⟩ .nil)))⟩,⟨_,_,by rw[eW7],qbM lW7 (by simp) (.cons ⟨_,rfl⟩ (.cons ⟨_,rfl⟩ (.cons ⟨_,rfl⟩ .nil)))⟩,⟨_,_,by rw[eW8],qbM lW8 (by simp) (.cons ⟨_,rfl⟩ .nil)⟩,⟨_,_,by rw[eW9],qbM lW9 (by simp) (.cons ⟨_,rfl⟩ (.cons ⟨_,rfl⟩ .nil))⟩,⟨_,_,by rw[eW10],qbM lW10 (by simp) (.cons ⟨_,rfl⟩ (.cons ⟨_,rfl⟩ .nil))⟩,⟨_,_,by rw[eW11],qbM lW11 (by simp) (.cons ⟨_,rfl⟩ (.cons ⟨_,rfl⟩ .nil))⟩,⟨_,_,by rw[eW12],qbM lW12 (by simp) (.cons ⟨_,rfl⟩ (.cons ⟨_,rfl⟩ (.cons ⟨_,rfl⟩ .nil)))⟩,⟨_,_,by rw[eW13],qbM lW13 (by simp) (.cons ⟨_,rfl⟩ .nil)⟩,⟨_,_,by rw[eW14],qbM lW14 (by simp) (.cons ⟨_,rfl⟩ .nil)⟩,⟨_,_,by rw[eW15],qbM lW15 (by simp) (.cons ⟨_,rfl⟩ .nil)⟩,trivial⟩;have Z:Xt l.prog w K mg cD aW:=⟨W.mg_of X G gD,⟨pgD,hdD,poD,saD⟩,nwD,nkD,W.mg_of X G gW,qsa lW nW EW⟩;refine⟨W.fnOf "law" "law" (qb2 qhc) (qbQ qhc) (qaf qhc) .none kV_law dc_law pm_law an_law cd_law ct_law,λs v => .of_eq rfl,λbase _ _=>?_⟩;have cl:∀{x:Str}{s:Stmt}{f:Addr}{fd:FuncData}{k:Nat}{ps:List Str}{sp:Sp},Dfn K x s f fd->qaM l.prog w K mg base CX0 k f fd ps sp->qdA K fd ps []->Cal l.prog w K mg base x k ps sp f fd:=λD o b=>⟨o,W.mg_of X G D.a,D.F.kp,b⟩;have C_41:=cl D1 (qiI D1.F T ) (D1.F.binds λ_ _ _ _ _ _ us hl=>match us,hl with | [_],_=>rfl);have C_22:=cl D2 (qhf D2.F T ) (D2.F.binds λ_ _ _ _ _ _ us hl=>match us,hl with | [_,_],_=>rfl);have C_15:=cl D3 (qf6 D3.F T ) (D3.F.binds λ_ _ _ _ _ _ us hl=>match us,hl with | [_,_],_=>rfl);have C_23:=cl D4 (qgU D4.F T C_22 C_15) (D4.F.binds λ_ _ _ _ _ _ us hl=>match us,hl with | [_,_],_=>rfl);have C_24:=cl D5 (qg3 D5.F T ) (D5.F.binds λ_ _ _ _ _ _ us hl=>match us,hl with | [_,_],_=>rfl);have C_06:=cl D6 (qeT D6.F T ) (D6.F.binds λ_ _ _ _ _ _ us hl=>match us,hl with | [_,_],_=>rfl);have C_32:=cl D7 (qhQ D7.F T C_06) (D7.F.binds λ_ _ _ _ _ _ us hl=>match us,hl with | [_,_],_=>rfl);have C_42:=cl D8 (qiO D8.F T ) (D8.F.binds λ_ _ _ _ _ _ us hl=>match us,hl with | [_,_],_=>rfl);have C_55:=cl D9 (qkT D9.F T C_41) (D9.F.binds λ_ _ _ _ _ _ us hl=>match us,hl with | [_,_],_=>rfl);have C_33:=cl D10 (qig D10.F T C_55) (D10.F.binds λ_ _ _ _ _ _ us hl=>match us,hl with | [_,_],_=>rfl);have C_43:=cl D11 (qiM D11.F T ) (D11.F.binds λ_ _ _ _ _ _ us hl=>match us,hl with | [_],_=>rfl);have C_56:=cl D12 (ql1 D12.F T ) (D12.F.binds λ_ _ _ _ _ _ us hl=>match us,hl with | [_],_=>rfl);have C_57:=cl D13 (qkP D13.F T ) (D13.F.binds λ_ _ _ _ _ _ us hl=>match us,hl with | [_,_],_=>rfl);have C_52:=cl D14 (qkp D14.F T ) (D14.F.binds λ_ _ _ _ _ _ us hl=>match us,hl with | [_],_=>rfl);have C_25:=cl D15 (qgK D15.F T C_57 C_52) (D15.F.binds λ_ _ _ _ _ _ us hl=>match us,hl with | [_],_=>rfl);have C_34:=cl D16 (qib D16.F T ) (D16.F.binds λ_ _ _ _ _ _ us hl=>match us,hl with | [_,_],_=>rfl);have C_44:=cl D17 (qiK D17.F T C_43) (D17.F.binds λ_ _ _ _ _ _ us hl=>match us,hl with | [_,_],_=>rfl);have C_16:=cl D18 (qf4 D18.F T ) (D18.F.binds λ_ _ _ _ _ _ us hl=>match us,hl with | [_,_],_=>rfl);have C_45:=cl D19 (qi2 D19.F T C_57 C_56 C_34) (D19.F.binds λ_ _ _ _ _ _ us hl=>match us,hl with | [_,_],_=>rfl);have C_17:=cl D20 (qf1 D20.F T C_57 C_45 C_33) (D20.F.binds λ_ _ _ _ _ _ us hl=>match us,hl with | [_,_],_=>rfl);have C_62:=cl D21 (qn7 D21.F T ) (D21.F.binds λ_ _ _ _ _ _ us hl=>match us,hl with | [_,_],_=>rfl);have C_63:=cl D22 (qol D22.F T ) (D22.F.binds λ_ _ _ _ _ _ us hl=>match us,hl with | [_,_],_=>rfl);have C_68:=cl D23 (qqf D23.F T ) (D23.F.binds λ_ _ _ _ _ _ us hl=>match us,hl with | [_,_],_=>rfl);have C_69:=cl D24 (qpP D24.F T C_62) (D24.F.binds λ_ _ _ _ _ _ us hl=>match us,hl with | [_,_],_=>rfl);have C_64:=cl D25 (qnH D25.F T C_69) (D25.F.binds λ_ _ _ _ _ _ us hl=>match us,hl with | [_],_=>rfl);have C_65:=cl D26 (qnC D26.F T C_68) (D26.F.binds λ_ _ _ _ _ _ us hl=>match us,hl with | [_,_],_=>rfl);have C_11:=cl D27 (qfW D27.F T C_63) (D27.F.binds λ_ _ _ _ _ _ us hl=>match us,hl with | [_,_],_=>rfl);have C_70:=cl D28 (qp7 D28.F T C_69 C_11) (D28.F.binds λ_ _ _ _ _ _ us hl=>match us,hl with | [_,_],_=>rfl);have C_35:=cl D29 (qhx D29.F T ) (D29.F.binds λ_ _ _ _ _ _ us hl=>match us,hl with | [_,_],_=>rfl);have C_26:=cl D30 (qhd D30.F T ) (D30.F.binds λ_ _ _ _ _ _ us hl=>match us,hl with | [_,_],_=>rfl);have C_58:=cl D31 (ql8 D31.F T ) (D31.F.binds λ_ _ _ _ _ _ us hl=>match us,hl with | [_,_],_=>rfl);have C_71:=cl D32 (qpS D32.F T ) (D32.F.binds λ_ _ _ _ _ _ us hl=>match us,hl with | [_,_],_=>rfl);have C_00:=cl D33 (qc1 D33.F T ) (D33.F.binds λ_ _ _ _ _ _ us hl=>match us,hl with | [_,_,_],_=>rfl);have C_59:=cl D34 (qlc D34.F T ) (D34.F.binds λ_ _ _ _ _ _ us hl=>match us,hl with | [_,_],_=>rfl);have C_04:=cl D35 (qee D35.F T ) (D35.F.binds λ_ _ _ _ _ _ us hl=>match us,hl with | [_,_,_],_=>rfl);have C_72:=cl D36 (qpK D36.F T ) (D36.F.binds λ_ _ _ _ _ _ us hl=>match us,hl with | [_,_,_],_=>rfl);have C_46:=cl D37 (qjg D37.F T C_69) (D37.F.binds λ_ _ _ _ _ _ us hl=>match us,hl with | [_,_],_=>rfl);have C_53:=cl D38 (qka D38.F T C_65 C_70) (D38.F.binds λ_ _ _ _ _ _ us hl=>match us,hl with | [_,_],_=>rfl);have C_07:=cl D39 (qeW D39.F T C_63) (D39.F.binds λ_ _ _ _ _ _ us hl=>match us,hl with | [_,_,_,_],_=>rfl);have C_18:=cl D40 (qfZ D40.F T C_07) (D40.F.binds λ_ _ _ _ _ _ us hl=>match us,hl with | [_,_,_,_],_=>rfl);have C_47:=cl D41 (qjj D41.F T C_18 C_46) (D41.F.binds λ_ _ _ _ _ _ us hl=>match us,hl with | [_,_,_,_],_=>rfl);have C_36:=cl D42 (qhO D42.F T ) (D42.F.binds λ_ _ _ _ _ _ us hl=>match us,hl with | [_,_,_],_=>rfl);have C_66:=cl D43 (qnn D43.F T C_46 C_36) (D43.F.binds λ_ _ _ _ _ _ us hl=>match us,hl with | [_,_],_=>rfl);have C_12:=cl D44 (qft D44.F T ) (D44.F.binds λ_ _ _ _ _ _ us hl=>match us,hl with | [_],_=>rfl);have C_01:=cl D45 (qcS D45.F T C_44) (D45.F.binds λ_ _ _ _ _ _ us hl=>match us,hl with | [_,_],_=>rfl);have C_19:=cl D46 (qf5 D46.F T ) (D46.F.binds λ_ _ _ _ _ _ us hl=>match us,hl with | [_,_],_=>rfl);have C_60:=cl D47 (qmN D47.F T ) (D47.F.binds λ_ _ _ _ _ _ us hl=>match us,hl with | [_],_=>rfl);have C_67:=cl D48 (qnD D48.F T C_46 C_60 C_18 C_66) (D48.F.binds λ_ _ _ _ _ _ us hl=>match us,hl with | [_,_],_=>rfl);have C_27:=cl D49 (qg8 D49.F T ) (D49.F.binds λ_ _ _ _ _ _ us hl=>match us,hl with | [_,_],_=>rfl);have C_28:=cl D50 (qgV D50.F T C_27) (D50.F.binds λ_ _ _ _ _ _ us hl=>match us,hl with | [_,_],_=>rfl);have C_37:=cl D51 (qh6 D51.F T C_43) (D51.F.binds λ_ _ _ _ _ _ us hl=>match us,hl with | [_,_],_=>rfl);have C_61:=cl D52 (qkW D52.F T ) (D52.F.binds λ_ _ _ _ _ _ us hl=>match us,hl with | [_,_,_,_],_=>rfl);have C_20:=cl D53 (qf9 D53.F T C_37) (D53.F.binds λ_ _ _ _ _ _ us hl=>match us,hl with | [_,_,_],_=>rfl)
 have D_08:∀n,Cal l.prog w K mg base "falling_lists" (1+n) ["length", "most"] (qsD K n) f54 d54:=λn=>by
  induction n with
  | zero=>exact cl D54 (qfN D54.F) (D54.F.binds λ_ _ _ _ _ _ us hl=>match us,hl with | [_,_],_=>rfl)
  | succ n ih=>exact cl D54 (qeS D54.F T  n ih) (D54.F.binds λ_ _ _ _ _ _ us hl=>match us,hl with | [_,_],_=>rfl)
 have C_08:=D_08 6;have C_38:=cl D55 (qhr D55.F T ) (D55.F.binds λ_ _ _ _ _ _ us hl=>match us,hl with | [_,_,_],_=>rfl);have C_54:=cl D56 (qkn D56.F T C_64 C_53 C_08 C_38 C_20) (D56.F.binds λ_ _ _ _ _ _ us hl=>match us,hl with | [_,_,_],_=>rfl);have C_29:=cl D57 (qgP D57.F T C_67 C_54 C_61) (D57.F.binds λ_ _ _ _ _ _ us hl=>match us,hl with | [_,_],_=>rfl);have C_13:=cl D58 (qfI D58.F T C_44 C_12) (D58.F.binds λ_ _ _ _ _ _ us hl=>match us,hl with | [_,_],_=>rfl);have C_03:=cl D59 (qdH D59.F T C_47) (D59.F.binds λ_ _ _ _ _ _ us hl=>match us,hl with | [_,_,_,_],_=>rfl);have C_48:=cl D60 (qjd D60.F T C_52) (D60.F.binds λ_ _ _ _ _ _ us hl=>match us,hl with | [_],_=>rfl);have C_49:=cl D61 (qiH D61.F T Z ) (D61.F.binds λ_ _ _ _ _ _ us hl=>match us,hl with | [_],_=>rfl);have C_09:qq9 l.prog w K mg base cD _ _ _ _ _:=⟨qeV D62.F T Z C_25,⟨mkD,D62.a,D62.i,kpD⟩,(D62.F.binds λ_ _ _ _ _ _ us hl=>match us,hl with | [_,_],_=>rfl)⟩;have C_05:qeQ l.prog w K mg base cD "family_by" _ _ _ _ _:=⟨qej D63.F T Z ,⟨D63.a,D63.i,D63.F.kp⟩,(D63.F.binds λ_ _ _ _ _ _ us hl=>match us,hl with | [_,_],_=>rfl)⟩;have C_02:qeQ l.prog w K mg base cD "look_for_room" _ _ _ _ _:=⟨qcU D64.F T Z ,⟨D64.a,D64.i,D64.F.kp⟩,(D64.F.binds λ_ _ _ _ _ _ us hl=>match us,hl with | [_,_],_=>rfl)⟩;have C_10:qeQ l.prog w K mg base cD "thing_of" _ _ _ _ _:=⟨qeR D65.F T Z C_17 C_48 C_05 C_34 C_45,⟨D65.a,D65.i,D65.F.kp⟩,(D65.F.binds λ_ _ _ _ _ _ us hl=>match us,hl with | [_,_,_],_=>rfl)⟩;have C_73:=cl D66 (qrf D66.F T C_26 C_70 C_65 C_58 C_71 C_35) (D66.F.binds λ_ _ _ _ _ _ us hl=>match us,hl with | [_,_,_],_=>rfl);have C_50:=cl D67 (qiv D67.F T C_13 C_16 C_19 C_01 C_12 C_28 C_29 C_69 C_59 C_72 C_03 C_66 C_67) (D67.F.binds λ_ _ _ _ _ _ us hl=>match us,hl with | [_,_,_],_=>rfl);have C_51:qeQ l.prog w K mg base cD "say" _ _ _ _ _:=⟨qiU D68.F T Z C_49 C_50 C_10 C_02 C_73,⟨D68.a,D68.i,D68.F.kp⟩,(D68.F.binds λ_ _ _ _ _ _ us hl=>match us,hl with | [_,_],_=>rfl)⟩;have C_39:=cl D69 (qhw D69.F T C_23 C_22) (D69.F.binds λ_ _ _ _ _ _ us hl=>match us,hl with | [_],_=>rfl);have C_40:=cl D70 (qhs D70.F T Z C_51 C_06) (D70.F.binds λ_ _ _ _ _ _ us hl=>match us,hl with | [_,_,_],_=>rfl);have C_14:=cl D71 (qfT D71.F T Z C_40) (D71.F.binds λ_ _ _ _ _ _ us hl=>match us,hl with | [_,_,_],_=>rfl);have C_30:=cl D72 (qg2 D72.F T Z C_42 C_40) (D72.F.binds λ_ _ _ _ _ _ us hl=>match us,hl with | [_,_,_],_=>rfl);have C_31:=cl D73 (qhk D73.F T Z C_42 C_40 C_51) (D73.F.binds λ_ _ _ _ _ _ us hl=>match us,hl with | [_,_,_,_],_=>rfl);have C_21:=cl D74 (qf0 D74.F T Z C_51) (D74.F.binds λ_ _ _ _ _ _ us hl=>match us,hl with | [_,_,_,_],_=>rfl);exact qrZ (qkS (st:=qhc) l_law c_law k_law) T Z C_39 C_22 C_24 C_09 C_21 C_51 C_14 C_30 C_31 C_32
theorem walk {l:W.OpenLaw}{q:Program}{loose:List Str}{XP:(Str->Option Value)->Heap->Prop}{YP:World->Heap->Prop}{d:DefRec}{K:Params->W.Frag}(hn:l.most=some 63)(hdf:d.params.defaults=[])
 (hY:∀(w:World) (h:Heap),YP w h->(K w.params).In h)
 (F:∀(w:World) (mg:Str->Option Value) (fa:Addr) (h:Heap),(K w.params).In h->h.Ns mainGlobals mg->mg d.name=some (.ref fa) ->
  ∃fd:FuncData,(∀(s:Shared) (u:Value),BindsTo s fd ⟨[u],[]⟩ [("_law_script",u)])/\∀base:Heap,(K w.params).In base->base.Ns mainGlobals mg->qaM l.prog w (K w.params) mg base CX0 14 fa fd ["_law_script"] ((qmD (K w.params)))) :
 W.WalkO q loose XP YP l.row.toRowW d [] (λf vs=>PySem.call f vs) :=
 L2.walk_of (n:=63) (k:=14) (x := "_law_script") (CX:=λ_=>CX0) (sp:=λw=>(qmD (K w.params))) hn (by decide) hdf ⟨rfl,by decide,by decide⟩ hY F (λ_ _ a ns hl _ hS=>⟨_,rfl,a,ns,rfl,hS,hl,λ_=>rfl⟩) λ_ _ _ _ _ z=>z
end Zk54
namespace PySem.W.Fast
def tw13099927386444821977:=Nat
def tw10110623070210605023:=Nat
def tw12659085680638564820:=Nat
def tw3638769146582111247:=Nat
def tw6912056862339970042:=Nat
def tw14376704623393035949:=Nat
def tw64079205205907238:=Nat
def tw14253541316809942960:=Nat
def tw13888776277166368730:=Nat
def tw1352775022769914811:=Nat
def tw17082929588490175926:=Nat
def tw4804620289443733620:=Nat
def tw7190660880886339648:=Nat
def tw5964971283054709793:=Nat
def tw14146182508612709315:=Nat
def tw12664099800720218770:=Nat
def tw337243092736227884:=Nat
def tw4120631656164507144:=Nat
def tw6780280630169487006:=Nat
def tw3926887107960909514:=Nat
def tw620429053961631578:=Nat
def tw8387064959189537103:=Nat
def tw14456479751455740924:=Nat
def tw2859926769881213744:=Nat
def tw7774095275858630768:=Nat
def tw6508612685138976787:=Nat
def tw13536951775232597834:=Nat
def tw7276084931506886896:=Nat
def tw13761697785197779821:=Nat
def tw11715223353056739457:=Nat
def tw3635695398816433537:=Nat
def tw2280947006751643825:=Nat
def tw2987423219114902040:=Nat
def tw5950521210935452929:=Nat
def tw6047481168940556520:=Nat
def tw4502208114325488139:=Nat
def tw10176969681174931270:=Nat
def tw12274228587591270631:=Nat
def tw282093406457706103:=Nat
def tw9072588499162709337:=Nat
def tw15342128381422002308:=Nat
def tw5499718953129384639:=Nat
def tw3939566664985193445:=Nat
def tw196238054578916340:=Nat
def tw7066624958504835309:=Nat
def tw621153145387048987:=Nat
def tw2037241393714484621:=Nat
def tw1371393913326977367:=Nat
def tw7531667694868878773:=Nat
def tw3783958102174581478:=Nat
def tw11726771660872191888:=Nat
def tw8828698154050391896:=Nat
def tw3670514003733790948:=Nat
def tw7616986941131782486:=Nat
def tw1685681378936521576:=Nat
def tw3399326195329033477:=Nat
def tw5890483357739310349:=Nat
def tw7487776388484259888:=Nat
def tw3490179995470862726:=Nat
def tw7354655304889616122:=Nat
def tw1429889354862174394:=Nat
def tw10798989755156334580:=Nat
def tw8132282505491053567:=Nat
def tw4351254645614928600:=Nat
def tw15008441671017704594:=Nat
def tw4012517934502952906:=Nat
def tw4346720180727916964:=Nat
def tw1289413571821387321:=Nat
def tw5568320744180675609:=Nat
def tw17937004059215559490:=Nat
def tw3364558323862482462:=Nat
def tw16215016627016435783:=Nat
def tw7114619823888107256:=Nat
def tw9095607158199260285:=Nat
def tw14783028245108572638:=Nat
def tw17918935966812450688:=Nat
def tw8191367395540291195:=Nat
def tw13822753649400359300:=Nat
def tw4478635184758701934:=Nat
def tw6778453211793032673:=Nat
def tw116926635680073438:=Nat
def tw9865331566243008289:=Nat
def tw1542115099684839179:=Nat
def tw2718363271261579967:=Nat
def tw3346528134967092852:=Nat
def tw10008777301421119809:=Nat
def tw1225029850668210863:=Nat
def tw1286383963524012962:=Nat
def tw16546419198482377965:=Nat
def tw12436439320948000809:=Nat
def tw10097073010140762175:=Nat
def tw8558467664375735898:=Nat
def tw11786368067298059364:=Nat
def tw9178292762650903473:=Nat
def tw6769112032245260153:=Nat
def tw7755713792843788579:=Nat
def tw1772039826793594977:=Nat
def tw12091976294000862580:=Nat
def tw2763943575164494863:=Nat
def tw1070654059638265801:=Nat
def tw675878676654780317:=Nat
def tw11830821555937447909:=Nat
def tw1186550109537049589:=Nat
def tw5295961296524471954:=Nat
def tw9336286062959919938:=Nat
def tw24813983938963398:=Nat
def tw3992578232827665628:=Nat
def tw10112881361226569400:=Nat
def tw10092340815766942613:=Nat
def tw10760798582692996830:=Nat
def tw938703959443939352:=Nat
def tw8194019168556760920:=Nat
def tw14748089555795058663:=Nat
def tw6392573285557694342:=Nat
def tw5449865706780328825:=Nat
def tw4812031266227268759:=Nat
def tw10365767437363497950:=Nat
def tw15176779745004685566:=Nat
def tw9690520860933916492:=Nat
def tw1470612424090090175:=Nat
def tw16945723004989794123:=Nat
def tw10251536897500268496:=Nat
def tw12590348282058889858:=Nat
def tw3140610774449320306:=Nat
def tw5627484429741914117:=Nat
def tw12778817360648939869:=Nat
def tw15140186380247724985:=Nat
def tw3632534638477877560:=Nat
def tw5614050048657260801:=Nat
def tw5171089296179914067:=Nat
def tw9363369424834826306:=Nat
def tw3926081371289212250:=Nat
def tw15478825422933399044:=Nat
def tw265690739137810235:=Nat
def tw13227962467653516267:=Nat
def tw9193998619583048428:=Nat
def tw9460188928385784015:=Nat
def tw9933256794256883188:=Nat
def tw8073338012211300539:=Nat
def tw17376549482636252826:=Nat
def tw17206855835926256680:=Nat
def tw17493478017472647466:=Nat
def tw16398338147139691907:=Nat
def tw2899417560639003268:=Nat
def tw3702935676639079997:=Nat
def tw11616283370285471944:=Nat
def tw10542546609448323272:=Nat
def tw1523297939229066822:=Nat
def tw150225459000921639:=Nat
def tw1701096457682829918:=Nat
def tw13270018239367577241:=Nat
def tw7345540238820094449:=Nat
def tw899667473397646530:=Nat
def tw13043898355880541535:=Nat
def tw11652606539597284867:=Nat
def tw6494619717731002399:=Nat
def tw6610637123897853618:=Nat
def tw8135966680737466687:=Nat
def tw8434068024825451133:=Nat
def tw12868342744223780291:=Nat
def tw15337069572273851167:=Nat
def tw4443301968322355917:=Nat
def tw5598595816098063753:=Nat
def tw17050933996738205221:=Nat
def tw18051538618194932369:=Nat
def tw5260056553710243141:=Nat
def tw145218858587041363:=Nat
def tw3589597831701839356:=Nat
def tw8763297878431318667:=Nat
def tw5276645281803792291:=Nat
def tw946506668593193716:=Nat
def tw16590111550309309100:=Nat
def tw4896168148987315307:=Nat
def tw17172424256552957967:=Nat
def tw13393721314364524860:=Nat
def tw87031855310631518:=Nat
def tw11243810704189726024:=Nat
def tw1424490630168042143:=Nat
def tw7276190482268727188:=Nat
def tw14706666609876277143:=Nat
def tw475665460914939102:=Nat
def tw16319246853462334982:=Nat
def tw3212394906261000266:=Nat
def tw8532220935420337632:=Nat
def tw1120405875700874384:=Nat
def tw3982865457802310001:=Nat
def tw113813487987494483:=Nat
def tw17502286132085439963:=Nat
def tw16765482987424588298:=Nat
def tw15084078493369769014:=Nat
def tw8662295246889695978:=Nat
def tw9024852645408597899:=Nat
def tw4565537782074123469:=Nat
def tw15751209036397847284:=Nat
def tw11123806157917939156:=Nat
def tw2108968957886237874:=Nat
def tw3412209654083991267:=Nat
def tw4055793797064412993:=Nat
def tw18049491723563236019:=Nat
def tw7150064712783901767:=Nat
def tw16357396013105617103:=Nat
def tw545013013532481610:=Nat
def tw709451167335355849:=Nat
def tw11040356607246970495:=Nat
def tw11333590694115995901:=Nat
def tw4295336264841653149:=Nat
def tw8312759850191608219:=Nat
def tw10028746200571934532:=Nat
def tw5257821312636238084:=Nat
def tw16743537115189242767:=Nat
def tw892727347053251163:=Nat
def tw13633815236682202116:=Nat
def tw3746478105331212711:=Nat
def tw10115792347513648105:=Nat
def tw792512614117614278:=Nat
def tw1890963307306072490:=Nat
def tw9119408610137436886:=Nat
def tw14054904417572904174:=Nat
def tw3441940088006590362:=Nat
def tw3731876669152689051:=Nat
def tw8987232613675937711:=Nat
def tw7965688560423642548:=Nat
def tw8438424097311689568:=Nat
def tw9620843462931192810:=Nat
def tw1784788296818619152:=Nat
def tw2185550646792490060:=Nat
def tw11545968487866122392:=Nat
def tw15194328570144894048:=Nat
def tw6183305679405084228:=Nat
def tw3350714509081043227:=Nat
def tw9021897894581997886:=Nat
def tw14331837764552737544:=Nat
def tw17043288551511600403:=Nat
def tw11740851448153417152:=Nat
def tw8624925248716199326:=Nat
def tw4024706101631498049:=Nat
def tw4858939033959205119:=Nat
def tw7180944018387654156:=Nat
def tw8802608894651071337:=Nat
def tw5987669113853507347:=Nat
def tw1325215566139351173:=Nat
def tw14089122109585874017:=Nat
def tw10887042034308690010:=Nat
def tw9887057717299434442:=Nat
def tw12830741653145202317:=Nat
def tw15497551623867515056:=Nat
def tw13787463066725656195:=Nat
def tw17728177641584590601:=Nat
def tw4219129613009797620:=Nat
def tw3809218504782747323:=Nat
def tw2073263114169719224:=Nat
def tw6132287816976350777:=Nat
def tw2196654454230108724:=Nat
def tw2583872381648994139:=Nat
def tw244005874492831876:=Nat
def tw7954295929040765947:=Nat
def tw2777242230487115590:=Nat
def tw8848156271953479875:=Nat
def tw9200864915266804580:=Nat
def tw18323236478319017981:=Nat
def tw16061808261110213857:=Nat
def tw3670870052252758887:=Nat
def tw5453906618063374975:=Nat
def tw916858220499017695:=Nat
def tw5187626343340771494:=Nat
def tw8075598470722552253:=Nat
def tw7437745410533005136:=Nat
def tw4011354509665242462:=Nat
def tw11903943917235882269:=Nat
def tw17809632729797518414:=Nat
def tw10058780785857673327:=Nat
def tw752664798865590809:=Nat
def tw6843524047860578437:=Nat
def tw5620664061892415722:=Nat
def tw1543036076504956252:=Nat
def tw16282069401344018065:=Nat
def tw5279090132617333843:=Nat
def tw7287276395182758719:=Nat
def tw13718809285177791434:=Nat
def tw11186312666645859447:=Nat
def tw15670918361592617430:=Nat
def tw16828039391472000969:=Nat
def tw11886239292549709698:=Nat
def tw14739158552920426833:=Nat
def tw6074101437252690271:=Nat
def tw13627632765259480649:=Nat
def tw4481128748425658918:=Nat
def tw6627647018198255229:=Nat
def tw4871658989208511085:=Nat
def tw9107985084203789736:=Nat
def tw7847641998219041293:=Nat
def tw11698086083542290003:=Nat
def tw6473145361689166037:=Nat
def tw6897889071030563059:=Nat
def tw16293915380116929455:=Nat
def tw9171359917214980090:=Nat
def tw18226603989284687416:=Nat
def tw13843515359128484981:=Nat
def tw6922916059648917897:=Nat
def tw10022330018601697698:=Nat
def tw9968729096823865790:=Nat
def tw2950544919649014526:=Nat
def tw3198653175664380109:=Nat
def tw727628930448722720:=Nat
def tw168306797453800205:=Nat
def tw1600709538272602857:=Nat
def tw15952627227453490838:=Nat
def tw6430390074078762524:=Nat
def tw8754451178326806027:=Nat
def tw5526711068914686998:=Nat
def tw12801174228974115310:=Nat
def tw9327431722771587818:=Nat
def tw16224604577606098429:=Nat
def tw4375950195682521080:=Nat
def tw4073341288770729403:=Nat
def tw7724216210005893666:=Nat
def tw16387638686591462392:=Nat
def tw6449829023839250920:=Nat
def tw10113729003058874590:=Nat
def tw6035842700652508369:=Nat
def tw5033014717615721381:=Nat
def tw2578252763283089155:=Nat
def tw2119719123342845611:=Nat
def tw3617343030499176061:=Nat
def tw5047276173636889647:=Nat
def tw1430480351479915673:=Nat
def tw4191670170675109198:=Nat
def tw1689686285880793032:=Nat
def tw9304993539307387698:=Nat
def tw9840711474702204737:=Nat
def tw4511691590172006162:=Nat
def tw5318825595265190466:=Nat
def tw1442740235068288017:=Nat
def tw740245391069550996:=Nat
def tw1938384048237804444:=Nat
def tw6688663189254709621:=Nat
def tw13475422846442086487:=Nat
def tw14998321462958193026:=Nat
def tw3781147486120517991:=Nat
def tw13812781880132609303:=Nat
def tw12637024570859305551:=Nat
def tw18068627493432713436:=Nat
def tw10147869120769922134:=Nat
def tw16775141214114219413:=Nat
def tw13458862553642257362:=Nat
def tw5348063973994127145:=Nat
def tw4407744356797412954:=Nat
def tw16251033379720440079:=Nat
def tw16149537233030462432:=Nat
def tw5053637780562277295:=Nat
def tw4740902226208069095:=Nat
def tw4631320842615557463:=Nat
def tw9247097480112684332:=Nat
def tw3921281732214243883:=Nat
def tw4368543870724830572:=Nat
def tw3931479273890622365:=Nat
def tw4268122398951978634:=Nat
def tw18061914168621874946:=Nat
def tw14025471992834067655:=Nat
def tw13648162068814192305:=Nat
def tw16460570343848239554:=Nat
def tw17776803118457476249:=Nat
def tw7637118645937187743:=Nat
def tw2187105205050128333:=Nat
def tw12757449883091133694:=Nat
def tw11757943485731897002:=Nat
def tw11802689082800989267:=Nat
def tw14408458690419416622:=Nat
def tw12555444332150614251:=Nat
def tw14919976531699697244:=Nat
def tw4191579030200063924:=Nat
def tw5604086022138657352:=Nat
def tw17512811935740238886:=Nat
def tw15262468836860393951:=Nat
def tw12929198758336884949:=Nat
def tw16479830353151103791:=Nat
def tw12909563076566642327:=Nat
def tw15325053518117967610:=Nat
def tw17686939017083019639:=Nat
def tw3298263385675974396:=Nat
def tw13590913534912643952:=Nat
def tw15672010926885207512:=Nat
def tw9588309790501779473:=Nat
def tw1849771575701291059:=Nat
def tw14096511092437651321:=Nat
def tw15790139662149904689:=Nat
def tw18320604346260930515:=Nat
def tw4673085729491698970:=Nat
def tw1831004937670554726:=Nat
def tw3918681772921670909:=Nat
def tw12085658004996635203:=Nat
def tw15357042098307270355:=Nat
def tw17594252107614460767:=Nat
def tw9964118226181567173:=Nat
def tw14871064314592151693:=Nat
def tw10693528605307260714:=Nat
def tw13792866735812746004:=Nat
def tw12539533757693296615:=Nat
def tw12487276946133013331:=Nat
def tw17562222516724393858:=Nat
def tw1387916084181150164:=Nat
def tw3642947591094612956:=Nat
def tw12211726907392348466:=Nat
def tw16916341145121149324:=Nat
def tw12902503227419257929:=Nat
def tw12696482763707497081:=Nat
def tw16980040243775777789:=Nat
def tw18055838833564169483:=Nat
def tw10551389549594576425:=Nat
def tw16058759719172042082:=Nat
def tw16160433970767886435:=Nat
def tw4632248476646010578:=Nat
def tw14810947979579527263:=Nat
def tw696192302570126306:=Nat
def tw1540879958451019599:=Nat
def tw10639886364951401728:=Nat
def tw1792406645378462036:=Nat
def tw10736339097339537817:=Nat
def tw1895871289418651040:=Nat
def tw16077284118082819560:=Nat
def tw13208772859628382311:=Nat
def tw13131468707425192960:=Nat
def tw12788212649631546241:=Nat
def tw15883260435063101256:=Nat
def tw14498899294172055307:=Nat
def tw14983083999722610083:=Nat
def tw7022657411558336850:=Nat
def tw7055145410672868839:=Nat
def tw9003496396878477210:=Nat
def tw8112698628612464812:=Nat
def tw4005701807780139599:=Nat
def tw3427141396912043789:=Nat
def tw11925835701925774852:=Nat
def tw70685573677890062:=Nat
def tw3536273717958538308:=Nat
def tw7403223083383894076:=Nat
def tw417085745080758254:=Nat
def tw2785075749274614806:=Nat
def tw683622260706622080:=Nat
def tw7835787711351623573:=Nat
def tw6377145613766179778:=Nat
def tw16703496499279637834:=Nat
def tw12191575987446103397:=Nat
def tw7601606283289953066:=Nat
def tw1253489092184712764:=Nat
def tw14840442257810113388:=Nat
def tw17208348876851573335:=Nat
def tw9276109056078702250:=Nat
def tw15221303605015469470:=Nat
def tw7582873100462263465:=Nat
def tw7865346309959867139:=Nat
def tw16367496679694425267:=Nat
def tw15369838349885246398:=Nat
def tw17930564897744057476:=Nat
def tw12436730292326296184:=Nat
def tw8677155157917180159:=Nat
def tw12542093813161933546:=Nat
def tw4251666341812160319:=Nat
def tw12959871400499710477:=Nat
def tw3079603218534665433:=Nat
def tw8686383481664814150:=Nat
def tw5713838384043844202:=Nat
def tw5434766771090587977:=Nat
def tw13840465899706032101:=Nat
def tw4739638677200251553:=Nat
def tw8342248977310005929:=Nat
def tw13378187349239382955:=Nat
def tw828462812826145872:=Nat
def tw15707986757597131212:=Nat
def tw2207202407849426156:=Nat
def tw12098399625052531745:=Nat
def tw13437558241190122220:=Nat
def tw15690143126490476484:=Nat
def tw6452798037238554738:=Nat
def tw7161684875401285980:=Nat
def tw17784077357175546131:=Nat
def tw7136630187117715900:=Nat
def tw15219144841849435263:=Nat
def tw16881172969132615063:=Nat
def tw12386316635052296734:=Nat
def tw6186312208606752461:=Nat
def tw17107287044553594874:=Nat
def tw2054484619952379037:=Nat
def tw14158312119396567870:=Nat
def tw2121818736564048266:=Nat
def tw14120580129789809505:=Nat
def tw6146436897190557714:=Nat
def tw12500692003846024568:=Nat
def tw9913648928492206003:=Nat
def tw15515128143234617392:=Nat
def tw3942285586453923483:=Nat
def tw5088247177482890237:=Nat
def tw15807780158078470413:=Nat
def tw14744828726007781014:=Nat
def tw5861562191603661125:=Nat
def tw4513864516215585970:=Nat
def tw3309145669835208202:=Nat
def tw2085729806234469509:=Nat
def tw5520671835233744311:=Nat
def tw8348366431984864087:=Nat
def tw21135077309290012:=Nat
def tw6665202991324401204:=Nat
def tw8014853142955765746:=Nat
def tw8696996839156506681:=Nat
def tw13471782286516662494:=Nat
def tw8408311887178103355:=Nat
def tw1015824542442571358:=Nat
def tw15199537254875220142:=Nat
def tw3043395887650121311:=Nat
def tw6984107280411995141:=Nat
def tw6643970336614979262:=Nat
def tw10852087066985442836:=Nat
def tw6395926705588814930:=Nat
def tw16327614275912728452:=Nat
def tw5658678689104332403:=Nat
def tw2735965259060190535:=Nat
def tw6514615243028874367:=Nat
def tw15685799344985447512:=Nat
def tw5612189777785144394:=Nat
def tw16810873477586511342:=Nat
def tw5706493899709575198:=Nat
def tw14937004179420051335:=Nat
def tw1620974889017263845:=Nat
def tw8761631500678398449:=Nat
def tw2911526797923312482:=Nat
def tw17981019462928588357:=Nat
def tw16530435516293199954:=Nat
def tw12273939319799763996:=Nat
def tw14079288076828268970:=Nat
def tw15631088367424387619:=Nat
def tw1394725259122474354:=Nat
def tw17525547437626717420:=Nat
def tw17152820610287529717:=Nat
def tw14142634807250859691:=Nat
def tw9590611155413986316:=Nat
def tw11562460876841237432:=Nat
def tw1447527860375601191:=Nat
def tw368504385742284815:=Nat
def tw18001493031565950152:=Nat
def tw9154002466771562635:=Nat
def tw8911133274354400428:=Nat
def tw6641070065240733729:=Nat
def tw1439558716986319113:=Nat
def tw12778747974531484175:=Nat
end PySem.W.Fast
open PySem PySem.W PyProof.Rows
set_option maxRecDepth 100000 in
set_option maxHeartbeats 0 in
theorem PySem.Challenge.cw_allhits_k54_whole_votes_by_text_holds : PySem.Challenge.rw_allhits_k54_whole_votes_by_text.Holds := by
 w_on;o_law;k_head;(case hw=>w_witness2)
 k_fill
 refine Zk54.walk (l:=PySem.Challenge.rw_allhits_k54_whole_votes_by_text) rfl rfl (λw h Y=>W.kIn_of Y) ?F
 case F =>
  intro w mg fa h KX G hmg;refine' Zk54.all_mk KX G hmg (Zk54.dn ?a1 ?b1 ?c1 ?d1) (Zk54.dn ?a2 ?b2 ?c2 ?d2) (Zk54.dn ?a3 ?b3 ?c3 ?d3) (Zk54.dn ?a4 ?b4 ?c4 ?d4) (Zk54.dn ?a5 ?b5 ?c5 ?d5) (Zk54.dn ?a6 ?b6 ?c6 ?d6) (Zk54.dn ?a7 ?b7 ?c7 ?d7) (Zk54.dn ?a8 ?b8 ?c8 ?d8) (Zk54.dn ?a9 ?b9 ?c9 ?d9) (Zk54.dn ?a10 ?b10 ?c10 ?d10) (Zk54.dn ?a11 ?b11 ?c11 ?d11) (Zk54.dn ?a12 ?b12 ?c12 ?d12) (Zk54.dn ?a13 ?b13 ?c13 ?d13) (Zk54.dn ?a14 ?b14 ?c14 ?d14) (Zk54.dn ?a15 ?b15 ?c15 ?d15) (Zk54.dn ?a16 ?b16 ?c16 ?d16) (Zk54.dn ?a17 ?b17 ?c17 ?d17) (Zk54.dn ?a18 ?b18 ?c18 ?d18) (Zk54.dn ?a19 ?b19 ?c19 ?d19) (Zk54.dn ?a20 ?b20 ?c20 ?d20) (Zk54.dn ?a21 ?b21 ?c21 ?d21) (Zk54.dn ?a22 ?b22 ?c22 ?d22) (Zk54.dn ?a23 ?b23 ?c23 ?d23) (Zk54.dn ?a24 ?b24 ?c24 ?d24) (Zk54.dn ?a25 ?b25 ?c25 ?d25) (Zk54.dn ?a26 ?b26 ?c26 ?d26) (Zk54.dn ?a27 ?b27 ?c27 ?d27) (Zk54.dn ?a28 ?b28 ?c28 ?d28) (Zk54.dn ?a29 ?b29 ?c29 ?d29) (Zk54.dn ?a30 ?b30 ?c30 ?d30) (Zk54.dn ?a31 ?b31 ?c31 ?d31) (Zk54.dn ?a32 ?b32 ?c32 ?d32) (Zk54.dn ?a33 ?b33 ?c33 ?d33) (Zk54.dn ?a34 ?b34 ?c34 ?d34) (Zk54.dn ?a35 ?b35 ?c35 ?d35) (Zk54.dn ?a36 ?b36 ?c36 ?d36) (Zk54.dn ?a37 ?b37 ?c37 ?d37) (Zk54.dn ?a38 ?b38 ?c38 ?d38) (Zk54.dn ?a39 ?b39 ?c39 ?d39) (Zk54.dn ?a40 ?b40 ?c40 ?d40) (Zk54.dn ?a41 ?b41 ?c41 ?d41) (Zk54.dn ?a42 ?b42 ?c42 ?d42) (Zk54.dn ?a43 ?b43 ?c43 ?d43) (Zk54.dn ?a44 ?b44 ?c44 ?d44) (Zk54.dn ?a45 ?b45 ?c45 ?d45) (Zk54.dn ?a46 ?b46 ?c46 ?d46) (Zk54.dn ?a47 ?b47 ?c47 ?d47) (Zk54.dn ?a48 ?b48 ?c48 ?d48) (Zk54.dn ?a49 ?b49 ?c49 ?d49) (Zk54.dn ?a50 ?b50 ?c50 ?d50) (Zk54.dn ?a51 ?b51 ?c51 ?d51) (Zk54.dn ?a52 ?b52 ?c52 ?d52) (Zk54.dn ?a53 ?b53 ?c53 ?d53) (Zk54.dn ?a54 ?b54 ?c54 ?d54) (Zk54.dn ?a55 ?b55 ?c55 ?d55) (Zk54.dn ?a56 ?b56 ?c56 ?d56) (Zk54.dn ?a57 ?b57 ?c57 ?d57) (Zk54.dn ?a58 ?b58 ?c58 ?d58) (Zk54.dn ?a59 ?b59 ?c59 ?d59) (Zk54.dn ?a60 ?b60 ?c60 ?d60) (Zk54.dn ?a61 ?b61 ?c61 ?d61) (Zk54.dm ?a62 ?i62 ?b62 ?c62 ?d62) (Zk54.dm ?a63 ?i63 ?b63 ?c63 ?d63) (Zk54.dm ?a64 ?i64 ?b64 ?c64 ?d64) (Zk54.dm ?a65 ?i65 ?b65 ?c65 ?d65) (Zk54.dn ?a66 ?b66 ?c66 ?d66) (Zk54.dn ?a67 ?b67 ?c67 ?d67) (Zk54.dm ?a68 ?i68 ?b68 ?c68 ?d68) (Zk54.dn ?a69 ?b69 ?c69 ?d69) (Zk54.dn ?a70 ?b70 ?c70 ?d70) (Zk54.dn ?a71 ?b71 ?c71 ?d71) (Zk54.dn ?a72 ?b72 ?c72 ?d72) (Zk54.dn ?a73 ?b73 ?c73 ?d73) (Zk54.dn ?a74 ?b74 ?c74 ?d74) ?a_law ?l_law ?c_law ?k_law ?z_isinstance ?z_int ?z_bool ?z_len ?z_sum ?z_sorted ?z_set ?z_range ?z_list ?z_str ?z_all ?z_reversed ?z_enumerate ?z_max ?z_min ?z_zip ?v_MOST_SETS ?v_MOST_LETTERS ?v_MOST_NAMES ?v_NO_SETS ?v_NO_NAMES ?v_MOST_WEIGHT ?v_MOST_VOTERS ?v_MOST_KEPT ?gD ?gW ?lW ?nW ?eW1 ?lW1 ?eW2 ?lW2 ?eW3 ?lW3 ?eW4 ?lW4 ?eW5 ?lW5 ?eW6 ?lW6 ?eW7 ?lW7 ?eW8 ?lW8 ?eW9 ?lW9 ?eW10 ?lW10 ?eW11 ?lW11 ?eW12 ?lW12 ?eW13 ?lW13 ?eW14 ?lW14 ?eW15 ?lW15 ?pgD ?hdD ?poD ?saD ?nwD ?nkD ?mkD ?kpD
  (case gD | gW | lW=>k_is)
  (case a1 | b1 | c1 | d1 | a2 | b2 | c2 | d2 | a3 | b3 | c3 | d3 | a4 | b4 | c4 | d4 | a5 | b5 | c5 | d5 | a6 | b6 | c6 | d6 | a7 | b7 | c7 | d7 | a8 | b8 | c8 | d8 | a9 | b9 | c9 | d9 | a10 | b10 | c10 | d10 | a11 | b11 | c11 | d11 | a12 | b12 | c12 | d12 | a13 | b13 | c13 | d13 | a14 | b14 | c14 | d14 | a15 | b15 | c15 | d15 | a16 | b16 | c16 | d16 | a17 | b17 | c17 | d17 | a18 | b18 | c18 | d18 | a19 | b19 | c19 | d19 | a20 | b20 | c20 | d20 | a21 | b21 | c21 | d21 | a22 | b22 | c22 | d22 | a23 | b23 | c23 | d23 | a24 | b24 | c24 | d24 | a25 | b25 | c25 | d25 | a26 | b26 | c26 | d26 | a27 | b27 | c27 | d27 | a28 | b28 | c28 | d28 | a29 | b29 | c29 | d29 | a30 | b30 | c30 | d30 | a31 | b31 | c31 | d31 | a32 | b32 | c32 | d32 | a33 | b33 | c33 | d33 | a34 | b34 | c34 | d34 | a35 | b35 | c35 | d35 | a36 | b36 | c36 | d36 | a37 | b37 | c37 | d37 | a38 | b38 | c38 | d38 | a39 | b39 | c39 | d39 | a40 | b40 | c40 | d40 | a41 | b41 | c41 | d41 | a42 | b42 | c42 | d42 | a43 | b43 | c43 | d43 | a44 | b44 | c44 | d44 | a45 | b45 | c45 | d45 | a46 | b46 | c46 | d46 | a47 | b47 | c47 | d47 | a48 | b48 | c48 | d48 | a49 | b49 | c49 | d49 | a50 | b50 | c50 | d50 | a51 | b51 | c51 | d51 | a52 | b52 | c52 | d52 | a53 | b53 | c53 | d53 | a54 | b54 | c54 | d54 | a55 | b55 | c55 | d55 | a56 | b56 | c56 | d56 | a57 | b57 | c57 | d57 | a58 | b58 | c58 | d58 | a59 | b59 | c59 | d59 | a60 | b60 | c60 | d60 | a61 | b61 | c61 | d61 | a62 | i62 | b62 | c62 | d62 | a63 | i63 | b63 | c63 | d63 | a64 | i64 | b64 | c64 | d64 | a65 | i65 | b65 | c65 | d65 | a66 | b66 | c66 | d66 | a67 | b67 | c67 | d67 | a68 | i68 | b68 | c68 | d68 | a69 | b69 | c69 | d69 | a70 | b70 | c70 | d70 | a71 | b71 | c71 | d71 | a72 | b72 | c72 | d72 | a73 | b73 | c73 | d73 | a74 | b74 | c74 | d74 | a_law | l_law | c_law | k_law | z_isinstance | z_int | z_bool | z_len | z_sum | z_sorted | z_set | z_range | z_list | z_str | z_all | z_reversed | z_enumerate | z_max | z_min | z_zip | v_MOST_SETS | v_MOST_LETTERS | v_MOST_NAMES | v_NO_SETS | v_NO_NAMES | v_MOST_WEIGHT | v_MOST_VOTERS | v_MOST_KEPT=>k_is)
  (case nW | eW1 | eW2 | eW3 | eW4 | eW5 | eW6 | eW7 | eW8 | eW9 | eW10 | eW11 | eW12 | eW13 | eW14 | eW15=>rfl)
  (case lW1 | lW2 | lW3 | lW4 | lW5 | lW6 | lW7 | lW8 | lW9 | lW10 | lW11 | lW12 | lW13 | lW14 | lW15 | pgD | hdD | poD | saD | nwD | nkD | mkD | kpD=>k_is)
