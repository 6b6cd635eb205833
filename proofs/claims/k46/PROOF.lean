import PyProof.Rows.All
import Wide.All
import OpenK.AllK
import Wide.FinOn
import Lean
import PyProof.EqAt
import PyProof.EqKinds
import PyProof.TupleCall
import PyProof.CompFree
import PyProof.CollectWalk
import PyProof.Rows.SetFrom
import PyProof.Rows.SortShell
import PySem.Challenge.RW_allhits_k46_texts_of_no_sets
set_option Elab.async false
set_option linter.all false
set_option maxRecDepth 100000
namespace L2
open PySem PySem.Spec PyProof.Rows
abbrev Key := Sum Int Str
def keyIs : Key → Value → Bool
  | .inl k, v => Value.isInt k v
  | .inr x, v => Value.isStrOf x v
def keyH (w : World) : Key → Int
  | .inl k => hashInt k
  | .inr x => hashStr w x
theorem keyIs_shape : ∀ {k : Key} {v : Value}, keyIs k v = true → (∃ i t, k = Sum.inl i ∧ v = Value.int i t) ∨ (∃ x t, k = Sum.inr x ∧ v = Value.str x t)
  | .inl i, v, h => by
    obtain ⟨t, e⟩ := Value.isInt_shape (k := i) (v := v) h
    exact .inl ⟨i, t, rfl, e⟩
  | .inr x, v, h => by
    obtain ⟨t, e⟩ := Value.isStrOf_shape (x := x) (v := v) h
    exact .inr ⟨x, t, rfl, e⟩
theorem keyIs_int (i : Int) (t : Tok) : keyIs (.inl i) (.int i t) = true := by simp [keyIs, Value.isInt]
theorem keyIs_str (x : Str) (t : Tok) : keyIs (.inr x) (.str x t) = true := by simp [keyIs, Value.isStrOf]
theorem key_ll (a b : Int) : decide ((Sum.inl a : Key) = Sum.inl b) = (a == b) := by
  by_cases e : a = b
  · subst e; simp
  · have h : ¬ (Sum.inl a : Key) = Sum.inl b := fun q => e (Sum.inl.inj q)
    rw [decide_eq_false h]
    exact (beq_eq_false_iff_ne.mpr e).symm
theorem key_rr (a b : Str) : decide ((Sum.inr a : Key) = Sum.inr b) = decide (a = b) := by
  by_cases e : a = b
  · subst e; simp
  · have h : ¬ (Sum.inr a : Key) = Sum.inr b := fun q => e (Sum.inr.inj q)
    rw [decide_eq_false h, decide_eq_false e]
theorem key_lr (a : Int) (b : Str) : decide ((Sum.inl a : Key) = Sum.inr b) = false := decide_eq_false (fun q => nomatch q)
theorem key_rl (a : Str) (b : Int) : decide ((Sum.inr a : Key) = Sum.inl b) = false := decide_eq_false (fun q => nomatch q)
def mixKind (prog : Program) (w : World) : PySem.KeyKind prog w Key where
  is := keyIs
  hash := keyH w
  inj := fun v a b ha hb => by
    rcases keyIs_shape ha with ⟨i, t, rfl, rfl⟩ | ⟨x, t, rfl, rfl⟩
    · rcases keyIs_shape hb with ⟨j, u, rfl, e⟩ | ⟨y, u, rfl, e⟩
      · injection e with e1 _; rw [e1]
      · exact nomatch e
    · rcases keyIs_shape hb with ⟨j, u, rfl, e⟩ | ⟨y, u, rfl, e⟩
      · exact nomatch e
      · injection e with e1 _; rw [e1]
  byValue := fun k v h => by
    rcases keyIs_shape h with ⟨i, t, rfl, rfl⟩ | ⟨x, t, rfl, rfl⟩ <;> rfl
  pyHash := fun hv h => by
    rcases keyIs_shape hv with ⟨i, t, rfl, rfl⟩ | ⟨x, t, rfl, rfl⟩
    · exact wpAny_pyHash_int h
    · exact wpAny_pyHash_str h
  eqBool := fun hu hv h => by
    rcases keyIs_shape hu with ⟨i, t, rfl, rfl⟩ | ⟨x, t, rfl, rfl⟩
    · rcases keyIs_shape hv with ⟨j, u, rfl, rfl⟩ | ⟨y, u, rfl, rfl⟩
      · rw [key_ll] at h; exact wpAny_eqBool_int h
      · rw [key_lr] at h; exact SeqAt.EqAt.int_str i t y u _ _ _ _ h
    · rcases keyIs_shape hv with ⟨j, u, rfl, rfl⟩ | ⟨y, u, rfl, rfl⟩
      · rw [key_rl] at h; exact SeqAt.EqAt.str_int x t j u _ _ _ _ h
      · rw [key_rr] at h; exact wpAny_eqBool_str h
  «strs» := fun k x t v h => by
    rcases keyIs_shape h with ⟨i, u, rfl, e⟩ | ⟨y, u, rfl, e⟩
    · exact nomatch e
    · injection e with e1 _
      subst e1
      cases v <;> rfl
theorem mixKind_int (prog : Program) (w : World) (i : Int) (t : Tok) : (mixKind prog w).is (.inl i) (.int i t) = true := keyIs_int i t
theorem mixKind_str (prog : Program) (w : World) (x : Str) (t : Tok) : (mixKind prog w).is (.inr x) (.str x t) = true := keyIs_str x t
end L2
namespace L2
open PySem PySem.Spec PyProof.Rows
inductive V where
  | non | bl (b : Bool) | int (i : Int) | str (x : Str) | byt (b : Array UInt8) | flt (b : UInt64) | ref (a : Addr) | ty (n : String)
  deriving DecidableEq
def RelV : V → Value → Prop
  | .non, u => u = Value.none
  | .bl b, u => u = Value.bool b
  | .int i, u => ∃ t, u = Value.int i t
  | .str x, u => ∃ t, u = Value.str x t
  | .byt b, u => ∃ t, u = Value.bytes b t
  | .flt b, u => ∃ t, u = Value.float b t
  | .ref a, u => u = Value.ref a
  | .ty n, u => u = Value.type n
abbrev Vals : List V → List Value → Prop := Paired RelV
theorem Vals.length {xs : List V} {us : List Value} (r : Vals xs us) : xs.length = us.length := Paired.length r
theorem Vals.get : ∀ {xs : List V} {us : List Value} {i : Nat} {x : V}, Vals xs us → xs[i]? = some x → ∃ u, us[i]? = some u ∧ RelV x u
  | _, _, _, _, .nil, e => by simp at e
  | _, _, 0, _, .cons r _, e => by simp at e; subst e; exact ⟨_, rfl, r⟩
  | _, _, i + 1, x, .cons _ t, e => by
    obtain ⟨u, h1, h2⟩ := Vals.get (i := i) (x := x) t (by simpa using e)
    exact ⟨u, by simpa using h1, h2⟩
theorem Vals.set {x : V} {u : Value} (r : RelV x u) : ∀ {xs : List V} {us : List Value} (i : Nat), Vals xs us → Vals (xs.set i x) (us.set i u)
  | _, _, _, .nil => .nil
  | _, _, 0, .cons _ t => .cons r t
  | _, _, i + 1, .cons q t => .cons q (Vals.set r i t)
theorem Vals.append : ∀ {xs ys : List V} {us ws : List Value}, Vals xs us → Vals ys ws → Vals (xs ++ ys) (us ++ ws)
  | _, _, _, _, .nil, s => s
  | _, _, _, _, .cons r t, s => .cons r (Vals.append t s)
theorem Vals.take : ∀ {xs : List V} {us : List Value} (n : Nat), Vals xs us → Vals (xs.take n) (us.take n)
  | _, _, 0, _ => .nil
  | _, _, _ + 1, .nil => .nil
  | _, _, n + 1, .cons r t => .cons r (Vals.take n t)
theorem Vals.drop : ∀ {xs : List V} {us : List Value} (n : Nat), Vals xs us → Vals (xs.drop n) (us.drop n)
  | _, _, 0, r => r
  | _, _, _ + 1, .nil => .nil
  | _, _, n + 1, .cons _ t => Vals.drop n t
theorem Vals.none_of : ∀ {xs : List V} {us : List Value} {i : Nat}, Vals xs us → xs[i]? = none → us[i]? = none := fun {xs us i} r e => by
  have h1 := r.length
  have h2 : xs.length ≤ i := List.getElem?_eq_none_iff.mp e
  exact List.getElem?_eq_none_iff.mpr (by omega)
def RelO : Option V → Option Value → Prop
  | some v, some u => RelV v u
  | none, none => True
  | _, _ => False
def KV {κ : Type} : List (κ × V) → List (κ × Value) → Prop := Paired fun (p : κ × V) (q : κ × Value) => p.1 = q.1 ∧ RelV p.2 q.2
def kV : Key → V
  | .inl i => .int i
  | .inr x => .str x
inductive HO where
  
  | lst (xs : List V)
  
  | tup (xs : List V)
  
  | dK (kvs : List (Key × V)) | dT (kvs : List (List Key × V))
  
  | set (S : Int → Bool) (n : Nat)
  
  | ins (C dx : Addr) (fs : List (Str × V))
  
  | own (x : Addr)
  
  | xd (fs : List (Str × V))
  
  | met (f x : Addr)
  
  | rng (lo hi : Int)
  
  | frz (o : Obj) (u : HO)
  
  | tbl (ps : Array Value)
  
  | ext (φ : Heap → Prop)
abbrev Hp := Addr → Option HO
def upd (H : Hp) (a : Addr) (o : HO) : Hp := fun b => if b = a then some o else H b
theorem upd_same {H : Hp} {a : Addr} {o : HO} : upd H a o a = some o := by unfold upd; rw [if_pos rfl]
theorem upd_ne {H : Hp} {a b : Addr} {o : HO} (h : b ≠ a) : upd H a o b = H b := by unfold upd; rw [if_neg h]
theorem upd_upd {H : Hp} {a : Addr} {o u : HO} : upd (upd H a o) a u = upd H a u := by
  funext b; unfold upd; split <;> rfl
theorem ne_of {H : Hp} {a b : Addr} {o u : HO} (h : H a = some o) (h' : H b = some u) (d : o ≠ u) : a ≠ b := by
  intro e; subst e; rw [h] at h'; exact d (Option.some.inj h')
theorem ne_of_none {H : Hp} {a b : Addr} {o : HO} (h : H a = some o) (h' : H b = none) : a ≠ b := by
  intro e; subst e; rw [h] at h'; cases h'
section
variable (P : Program) (w : World)
def ObjOk (H : Hp) (h : Heap) (a : Addr) : HO → Prop
  | .lst xs => xs.length ≤ sizeLine ∧ ∃ (its : List Value) (n : Nat), Vals xs its ∧ h.get? a = some { cls := .type "list", data := .seq its.toArray n }
  | .tup xs => xs.length ≤ sizeLine ∧ ∃ its : List Value, Vals xs its ∧ IsTup h a its.toArray
  | .dK kvs => kvs.length ≤ sizeLine ∧ (a == sysModules) = false ∧ ∃ vs, KV kvs vs ∧ h.DictOf (mixKind P w) a vs
  | .dT kvs => kvs.length ≤ sizeLine ∧ (a == sysModules) = false ∧ ∃ xs : List (List Key × Addr × Value),
      Paired (fun (p : List Key × V) (q : List Key × Addr × Value) => p.1 = q.1 ∧ H q.2.1 = some (.tup (p.1.map kV)) ∧ RelV p.2 q.2.2) kvs xs ∧
      ∃ o es ep, h.get? a = some o ∧ o.ExactDict ∧ o.data = .dict es ep ∧ es.toList = xs.map (entryOfKey (tupleKind (mixKind P w))) ∧ (xs.map (·.1)).Nodup
  | .set S n => h.SetOf (intKind P w) a S n
  | .ins C dx fs => H dx = some (.own a) ∧ fs.length ≤ 1000 ∧ dx ≠ a ∧ h.get? a = some (PySem.W.instObj C dx) ∧
      ∃ mA, h.Ns1 dx mA ∧ (∀ f, RelO (fs.lookup f) (mA f)) ∧ PySem.Within mA (fs.map (·.1))
  | .own _ => ∃ o, h.get? a = some o
  | .xd fs => ∃ mA, h.Ns1 a mA ∧ ∀ f, RelO (fs.lookup f) (mA f)
  | .rng lo hi => ∃ t u v, h.get? a = some { cls := .type "range", data := .fields #[.int lo t, .int hi u, .int 1 v] }
  | .frz o u => h.get? a = some o ∧ ObjOk H h a u
  | .tbl ps => h.get? a = some { cls := .none, data := .fields ps }
  | .met f x => h.get? a = some (PySem.W.methodObj (.ref f) (.ref x))
  | .ext φ => φ h ∧ (∃ o, h.get? a = some o) ∧ ∀ h1 h2 : Heap, φ h1 → (∀ o, h1.get? a = some o → h2.get? a = some o) → φ h2
def HOk (H : Hp) (h : Heap) : Prop := ∀ a o, H a = some o → ObjOk P w H h a o
end
section
variable {P : Program} {w : World} {H H' : Hp} {h h' : Heap} {a : Addr} {o : HO}
theorem ObjOk.lt (x : ObjOk P w H h a o) : a < h.objs.size := by
  cases o with
  | lst xs => obtain ⟨_, _, _, _, e⟩ := x; exact Heap.lt_size e
  | tup xs => obtain ⟨_, _, _, p⟩ := x; exact p.lt
  | dK kvs => obtain ⟨_, _, _, _, o, _, _, e, _⟩ := x; exact Heap.lt_size e
  | dT kvs => obtain ⟨_, _, _, _, o, _, _, e, _⟩ := x; exact Heap.lt_size e
  | set S n => obtain ⟨o, _, _, _, e, _⟩ := x; exact Heap.lt_size e
  | ins C dx fs => obtain ⟨_, _, _, e, _⟩ := x; exact Heap.lt_size e
  | own y => obtain ⟨_, e⟩ := x; exact Heap.lt_size e
  | xd fs => obtain ⟨_, ⟨_, _, _, e, _⟩, _⟩ := x; exact Heap.lt_size e
  | rng lo hi => obtain ⟨_, _, _, e⟩ := x; exact Heap.lt_size e
  | frz ob u => obtain ⟨e, _⟩ := x; exact Heap.lt_size e
  | tbl ps => exact Heap.lt_size (show h.get? a = some _ from x)
  | met f y => exact Heap.lt_size (show h.get? a = some _ from x)
  | ext φ => obtain ⟨_, ⟨_, e⟩, _⟩ := x; exact Heap.lt_size e
theorem Paired.mapP {α β : Type} {F G : α → β → Prop} : ∀ {l₁ : List α} {l₂ : List β}, Paired F l₁ l₂ → (∀ a b, F a b → G a b) → Paired G l₁ l₂
  | _, _, .nil, _ => .nil
  | _, _, .cons r t, f => .cons (f _ _ r) (Paired.mapP t f)
theorem ObjOk.stay (x : ObjOk P w H h a o) (k : ∀ b u, (b = a ∨ H b = some (.own a)) → h.get? b = some u → h'.get? b = some u)
    (ho : ∀ b, H b = some (.own a) → H' b = some (.own a)) (ht : ∀ b xs, H b = some (.tup xs) → H' b = some (.tup xs)) : ObjOk P w H' h' a o := by
  induction o with
  | lst xs => obtain ⟨z, its, n, r, e⟩ := x; exact ⟨z, its, n, r, k _ _ (.inl rfl) e⟩
  | tup xs => obtain ⟨z, its, r, ob, e, c⟩ := x; exact ⟨z, its, r, ob, k _ _ (.inl rfl) e, c⟩
  | dK kvs => obtain ⟨z, y, vs, r, ob, es, ep, e, c⟩ := x; exact ⟨z, y, vs, r, ob, es, ep, k _ _ (.inl rfl) e, c⟩
  | dT kvs =>
    obtain ⟨z, y, xs, r, ob, es, ep, e, c⟩ := x
    exact ⟨z, y, xs, Paired.mapP r fun p q z => ⟨z.1, ht _ _ z.2.1, z.2.2⟩, ob, es, ep, k _ _ (.inl rfl) e, c⟩
  | set S n => obtain ⟨ob, es, ep, t, e, c⟩ := x; exact ⟨ob, es, ep, t, k _ _ (.inl rfl) e, c⟩
  | ins C dx fs =>
    obtain ⟨d, z, ne, e, mA, ⟨od, es, ep, e2, c⟩, r⟩ := x
    exact ⟨ho _ d, z, ne, k _ _ (.inl rfl) e, mA, ⟨od, es, ep, k _ _ (.inr d) e2, c⟩, r⟩
  | own y => obtain ⟨ob, e⟩ := x; exact ⟨ob, k _ _ (.inl rfl) e⟩
  | xd fs => obtain ⟨mA, ⟨od, es, ep, e, c⟩, r⟩ := x; exact ⟨mA, ⟨od, es, ep, k _ _ (.inl rfl) e, c⟩, r⟩
  | rng lo hi => obtain ⟨t, u, v, e⟩ := x; exact ⟨t, u, v, k _ _ (.inl rfl) e⟩
  | frz ob u ih => obtain ⟨e, q⟩ := x; exact ⟨k _ _ (.inl rfl) e, ih q⟩
  | tbl ps =>
    have e : h.get? a = some { cls := .none, data := .fields ps } := x
    show h'.get? a = some { cls := .none, data := .fields ps }
    exact k a _ (.inl rfl) e
  | met f y =>
    have e : h.get? a = some (PySem.W.methodObj (.ref f) (.ref y)) := x
    show h'.get? a = some (PySem.W.methodObj (.ref f) (.ref y))
    exact k a _ (.inl rfl) e
  | ext φ => obtain ⟨p, ⟨o, e⟩, st⟩ := x; exact ⟨st _ _ p fun o q => k _ _ (.inl rfl) q, ⟨o, k _ _ (.inl rfl) e⟩, st⟩
theorem HOk.lt (x : HOk P w H h) (e : H a = some o) : a < h.objs.size := (x a o e).lt
theorem HOk.fresh (x : HOk P w H h) (e : h.objs.size ≤ a) : H a = none := by
  cases q : H a with
  | none => rfl
  | some u => exact absurd (Nat.lt_of_lt_of_le (x.lt q) e) (Nat.lt_irrefl _)
theorem HOk.kept (x : HOk P w H h) (k : ∀ b u, h.get? b = some u → h'.get? b = some u) : HOk P w H h' := fun a o e =>
  (x a o e).stay (fun b u _ q => k b u q) (fun _ q => q) fun _ _ q => q
theorem HOk.laid (x : HOk P w H h) (k : ∀ b u, h.get? b = some u → h'.get? b = some u) (hp : h.objs.size ≤ a) (new : ObjOk P w (upd H a o) h' a o) : HOk P w (upd H a o) h' := fun b u e => by
  have hn := x.fresh hp
  by_cases hb : b = a
  · subst hb; rw [upd_same] at e; cases e; exact new
  · rw [upd_ne hb] at e
    exact (x b u e).stay (fun c v _ q => k c v q) (fun c q => by rw [upd_ne (ne_of_none q hn)]; exact q) fun c xs q => by rw [upd_ne (ne_of_none q hn)]; exact q
end
def Rd (H : Hp) (a : Addr) (u : HO) : Prop := H a = some u ∨ ∃ o, H a = some (.frz o u)
theorem Rd.of {H : Hp} {a : Addr} {u : HO} (h : H a = some u) : Rd H a u := .inl h
theorem Rd.ok {P : Program} {w : World} {H : Hp} {h : Heap} {a : Addr} {u : HO} (r : Rd H a u) (x : HOk P w H h) : ObjOk P w H h a u := by
  rcases r with r | ⟨o, r⟩
  · exact x a u r
  · obtain ⟨_, q⟩ := x a _ r
    exact q
def Mut : Option HO → Prop
  | some (.lst _) => True
  | some (.dK _) => True
  | some (.dT _) => True
  | some (.set _ _) => True
  | some (.ins _ _ _) => True
  | some (.ext _) => True
  | _ => False
section
variable {P : Program} {w : World} {H : Hp} {h h' : Heap} {x e : Addr} {o' : HO}
theorem HOk.write (ok : HOk P w H h) (mu : Mut (H x)) (he : e = x ∨ H e = some (.own x)) (k : ∀ b u, b ≠ e → h.get? b = some u → h'.get? b = some u) (heo : ∃ u, h'.get? e = some u)
    (new : ObjOk P w (upd H x o') h' x o') : HOk P w (upd H x o') h' := fun b u q => by
  have nown : ∀ c y, H c = some (.own y) → c ≠ x := fun c y r z => by subst z; rw [r] at mu; exact mu
  have ntup : ∀ c xs, H c = some (.tup xs) → c ≠ x := fun c xs r z => by subst z; rw [r] at mu; exact mu
  by_cases hb : b = x
  · subst hb; rw [upd_same] at q; cases q; exact new
  · rw [upd_ne hb] at q
    by_cases hbe : b = e
    · have q' : H b = some (.own x) := by
        rcases he with z | z
        · exact absurd (hbe.trans z) hb
        · rw [hbe]; exact z
      rw [q] at q'; cases q'
      obtain ⟨v, hv⟩ := heo
      exact ⟨v, by rw [hbe]; exact hv⟩
    · refine (ok b u q).stay (fun c v hc r => k c v ?_ r) (fun c r => by rw [upd_ne (nown c b r)]; exact r) fun c xs r => by rw [upd_ne (ntup c xs r)]; exact r
      rcases hc with rfl | hc
      · exact hbe
      · rintro rfl
        rcases he with z | z
        · exact nown c b hc z
        · rw [hc] at z; cases z; exact hb rfl
end
structure Un (fs ex : List Addr) (H H' : Hp) (h h' : Heap) : Prop where
  keep : ∀ b o, h.get? b = some o → H b = none → b ∉ fs → b ∉ ex → h'.get? b = some o
  slot : ∀ b o, h.get? b = some o → H b = none → b ∈ fs → b ∉ ex → ∃ sl, h'.get? b = some { o with slots := sl }
  free : ∀ b o, h.get? b = some o → H b = none → b ∉ ex → H' b = none
  there : ∀ b o, h.get? b = some o → b ∉ ex → ∃ o', h'.get? b = some o'
  tups : ∀ b xs, H b = some (.tup xs) → H' b = some (.tup xs)
  frzs : ∀ b o u, H b = some (.frz o u) → H' b = some (.frz o u)
  tbls : ∀ b ps, H b = some (.tbl ps) → ∃ more, H' b = some (.tbl (ps ++ more))
section
variable {fs fs' ex ex' : List Addr} {H H1 H2 : Hp} {h h1 h2 h' : Heap} {a x e : Addr} {o : HO}
theorem Un.any (u : Un fs ex H H1 h h1) {b : Addr} {ob : Obj} (q : h.get? b = some ob) (n : H b = none) (hx : b ∉ ex) : ∃ sl, h1.get? b = some { ob with slots := sl } := by
  by_cases hb : b ∈ fs
  · exact u.slot b ob q n hb hx
  · exact ⟨ob.slots, u.keep b ob q n hb hx⟩
theorem Un.trans (a : Un fs ex H H1 h h1) (b : Un fs ex H1 H2 h1 h2) : Un fs ex H H2 h h2 where
  keep := fun c ob q n hc hx => b.keep c ob (a.keep c ob q n hc hx) (a.free c ob q n hx) hc hx
  slot := fun c ob q n hc hx => by
    obtain ⟨sl, e1⟩ := a.slot c ob q n hc hx
    obtain ⟨sl', e2⟩ := b.slot c _ e1 (a.free c ob q n hx) hc hx
    exact ⟨sl', e2⟩
  free := fun c ob q n hx => by
    obtain ⟨o', e1⟩ := a.there c ob q hx
    exact b.free c o' e1 (a.free c ob q n hx) hx
  there := fun c ob q hx => by
    obtain ⟨o', e1⟩ := a.there c ob q hx
    exact b.there c o' e1 hx
  tups := fun c xs q => b.tups c xs (a.tups c xs q)
  frzs := fun c ob xs q => b.frzs c ob xs (a.frzs c ob xs q)
  tbls := fun c ps q => by
    obtain ⟨m1, e1⟩ := a.tbls c ps q
    obtain ⟨m2, e2⟩ := b.tbls c _ e1
    exact ⟨m1 ++ m2, by rw [e2, Array.append_assoc]⟩
theorem Un.kept (k : ∀ b u, h.get? b = some u → h'.get? b = some u) : Un fs ex H H h h' :=
  ⟨fun b ob q _ _ _ => k b ob q, fun b ob q _ _ _ => ⟨ob.slots, k b ob q⟩, fun _ _ _ n _ => n, fun b ob q _ => ⟨ob, k b ob q⟩, fun _ _ q => q, fun _ _ _ q => q, fun _ ps q => ⟨#[], by rw [q]; simp⟩⟩
theorem Un.refl : Un fs ex H H h h := Un.kept fun _ _ q => q
theorem Un.laid (k : ∀ b u, h.get? b = some u → h'.get? b = some u) (hp : h.objs.size ≤ a) (hn : H a = none) : Un fs ex H (upd H a o) h h' where
  keep := fun b u q _ _ _ => k b u q
  slot := fun b u q _ _ _ => ⟨u.slots, k b u q⟩
  free := fun b u q n _ => by rw [upd_ne (Nat.ne_of_lt (Nat.lt_of_lt_of_le (Heap.lt_size q) hp))]; exact n
  there := fun b u q _ => ⟨u, k b u q⟩
  tups := fun b xs q => by rw [upd_ne (ne_of_none q hn)]; exact q
  frzs := fun b u xs q => by rw [upd_ne (ne_of_none q hn)]; exact q
  tbls := fun b ps q => ⟨#[], by rw [upd_ne (ne_of_none q hn), q]; simp⟩
theorem Un.write (mu : Mut (H x)) (he : e = x ∨ H e = some (.own x)) (k : ∀ b u, b ≠ e → h.get? b = some u → h'.get? b = some u) (heo : ∃ u, h'.get? e = some u) : Un fs ex H (upd H x o) h h' := by
  have hx : ∀ b, H b = none → b ≠ x := fun b n z => by subst z; rw [n] at mu; exact mu
  have hb : ∀ b, H b = none → b ≠ e := fun b n z => by
    subst z
    rcases he with r | r
    · exact hx b n r
    · rw [n] at r; cases r
  have hm : ∀ b u, H b = some u → ¬ Mut (some u) → b ≠ x := fun b u q nm z => by subst z; rw [q] at mu; exact nm mu
  refine ⟨fun b u q n _ _ => k b u (hb b n) q, fun b u q n _ _ => ⟨u.slots, k b u (hb b n) q⟩, fun b u q n _ => by rw [upd_ne (hx b n)]; exact n, fun b u q _ => ?_,
    fun b xs q => by rw [upd_ne (hm b _ q fun z => z)]; exact q, fun b u xs q => by rw [upd_ne (hm b _ q fun z => z)]; exact q, fun b ps q => ⟨#[], by rw [upd_ne (hm b _ q fun z => z), q]; simp⟩⟩
  by_cases hbe : b = e
  · subst hbe; exact heo
  · exact ⟨u, k b u hbe q⟩
theorem Un.mono (u : Un fs ex H H1 h h1) (hs : ∀ b ∈ fs, b ∈ fs') (hx : ∀ b ∈ ex, b ∈ ex') : Un fs' ex' H H1 h h1 :=
  ⟨fun b ob q n hb he => u.keep b ob q n (fun z => hb (hs b z)) fun z => he (hx b z), fun _ _ q n _ he => u.any q n fun z => he (hx _ z), fun b ob q n he => u.free b ob q n fun z => he (hx b z), fun b ob q he => u.there b ob q fun z => he (hx b z), u.tups, u.frzs, u.tbls⟩
end
def trk (h : Heap) (H : Hp) : List Addr := (List.range h.objs.size).filter fun a => (H a).isSome
def hidT (h : Heap) (H : Hp) : Heap := PySem.W.hideAll h (trk h H)
theorem hidT_size (h : Heap) (H : Hp) : (hidT h H).objs.size = h.objs.size := PySem.W.hideAll_size _ _
theorem hidT_get {h : Heap} {H : Hp} {b : Addr} {o : Obj} (e : h.get? b = some o) (n : H b = none) : (hidT h H).get? b = some o :=
  PySem.W.hideAll_get _ e fun hm => by
    have q : (H b).isSome = true := (List.mem_filter.mp hm).2
    rw [n] at q; simp at q
theorem of_hidT {h : Heap} {H : Hp} {b : Addr} {o : Obj} (e : (hidT h H).get? b = some o) : h.get? b = some o ∧ H b = none := by
  have e' : h.get? b = some o := PySem.W.of_hideAll (trk h H) e
  refine ⟨e', ?_⟩
  cases q : H b with
  | none => rfl
  | some x =>
    have hm : b ∈ trk h H := List.mem_filter.mpr ⟨List.mem_range.mpr (Heap.lt_size e'), by simp [q]⟩
    have z : (hidT h H).get? b = none := PySem.W.hideAll_none (trk h H) hm
    rw [z] at e; cases e
def allNews (g h : Heap) (L : Addr) : List (Addr × Obj) := (List.range h.objs.size).filterMap fun a => if a = L ∨ (g.get? a).isSome = true then none else (h.get? a).map fun o => (a, o)
def rest (g h : Heap) (L d : Addr) : List (Addr × Obj) := (allNews g h L).filter fun p => decide (p.1 ≠ d)
end L2
namespace L2
open PySem PySem.Spec PyProof.Rows
structure Mod (K : PySem.W.Frag) (mg : Str → Option Value) (base : Heap) : Prop where
  kin : K.In base
  glob : base.Ns mainGlobals mg
  blt : ∃ mb, base.Ns builtinsNs mb ∧ ∀ x : Str, x ≠ "__name__" → mb x = bootBuiltins x
  nolimit : base.NoLimit
structure Cx where
  prog : Program
  w : World
  K : PySem.W.Frag
  mg : Str → Option Value
  base : Heap
  A : Around
  N : List Str
  s₀ : Shared
  H₀ : Hp
  env : Env
  outer : List Env
  stack : List Env
  ex : List Addr
  fn : Str → Bool
  calm : Bool
  pn : List (Addr × Obj)
  xe : Value → Shared → Prop
def frs (l : List Env) : List Addr := l.filterMap (·.frame)
abbrev Cx.fs (X : Cx) : List Addr := frs X.outer
def Vis (sc : Scope) (x : Str) : Prop := sc.names.lookup x = some .local ∨ sc.names.lookup x = some .cell ∨ sc.names.lookup x = some .free
def Loc (sc : Scope) (x : Str) : Prop := sc.names.lookup x = some .local ∨ sc.names.lookup x = some .cell
def Look (env : Env) (h : Heap) (m : Str → Option Value) (x : Str) (u : Value) : Prop :=
  (env.kindOf x = some .local ∧ m x = some u) ∨ ((env.kindOf x = some .cell ∨ env.kindOf x = some .free) ∧ ∃ c, env.cells.lookup x = some c ∧ h.IsCell c (some u))
structure Cx.Ok (X : Cx) : Prop where
  mod : Mod X.K X.mg X.base
  kind : X.env.scope.kind = .function
  glob : X.env.globals = mainGlobals
  blt : X.env.builtins = builtinsNs
  above : X.s₀.heap.objs.size ≤ X.env.locals
  inj : ∀ x y c, X.env.cells.lookup x = some c → X.env.cells.lookup y = some c → x = y
  has : ∀ x, (X.env.kindOf x = some .cell ∨ X.env.kindOf x = some .free) → ∃ c, X.env.cells.lookup x = some c
  cab : ∀ x c, X.fn x = true → X.env.cells.lookup x = some c → X.s₀.heap.objs.size ≤ c
  hd : X.calm = true → X.A.handled = none
  frames : X.A.frames = some X.stack
  stk : X.stack = X.outer ∨ (X.stack = X.env :: X.outer ∧ X.env.frame = some X.env.locals)
  exf : ∀ b ∈ X.ex, b ≠ X.env.locals ∧ ∀ x c, X.env.cells.lookup x = some c → c ≠ b
  bs : ∀ b o, X.base.get? b = some o → X.s₀.heap.get? b = some o ∧ X.H₀ b = none
  bsz : X.base.objs.size ≤ X.s₀.heap.objs.size
  noex : ∀ b o, X.base.get? b = some o → b ∉ X.ex
  exfs : ∀ b ∈ X.ex, b ∉ X.fs
  funs : X.s₀.heap.FunFrames X.base X.outer
  frf : ∀ b ∈ X.fs, X.H₀ b = none
structure Inv (X : Cx) (pins : List (Addr × Obj)) (σ : List (Option V)) (H : Hp) (s : Shared) : Prop where
  ok : X.Ok
  os : s.os = X.s₀.os
  bare : AllBare s.gens
  base : Un X.fs X.ex X.H₀ H X.s₀.heap s.heap
  loc : ∃ m, s.heap.Ns X.env.locals m ∧ ∀ (i : Nat) (x : Str) (v : V), X.N[i]? = some x → σ[i]? = some (some v) → Vis X.env.scope x → ∃ u, RelV v u ∧ Look X.env s.heap m x u
  cell : ∀ x c, X.env.cells.lookup x = some c → ∃ v, s.heap.IsCell c v
  free : H X.env.locals = none
  freeC : ∀ x c, X.env.cells.lookup x = some c → H c = none
  pin : ∀ p ∈ X.pn ++ pins, s.heap.get? p.1 = some p.2 ∧ H p.1 = none ∧ p.1 ≠ X.env.locals ∧ p.1 ∉ X.fs ∧ ∀ v, p.2.data ≠ .cell v
  hok : HOk X.prog X.w H s.heap
  len : σ.length = X.N.length
section
variable {X : Cx} {pins : List (Addr × Obj)} {σ : List (Option V)} {H H' : Hp} {s : Shared} {h' : Heap}
theorem Cx.Ok.nofr (ok : X.Ok) {b : Addr} {o : Obj} (e : X.base.get? b = some o) : b ∉ X.fs := fun hb => by
  have := (ok.funs.mem hb).1
  rw [e] at this; cases this
theorem Inv.bs (I : Inv X pins σ H s) : ∀ b o, X.base.get? b = some o → s.heap.get? b = some o ∧ H b = none := fun b o e =>
  ⟨I.base.keep b o (I.ok.bs b o e).1 (I.ok.bs b o e).2 (I.ok.nofr e) (I.ok.noex b o e), I.base.free b o (I.ok.bs b o e).1 (I.ok.bs b o e).2 (I.ok.noex b o e)⟩
theorem Inv.bk (I : Inv X pins σ H s) : ∀ b o, X.base.get? b = some o → s.heap.get? b = some o := fun b o e => (I.bs b o e).1
theorem Inv.mod (I : Inv X pins σ H s) : Mod X.K X.mg X.base := I.ok.mod
theorem Inv.kIn (I : Inv X pins σ H s) : X.K.In s.heap := I.ok.mod.kin.keeps I.bk
theorem Inv.nolimit (I : Inv X pins σ H s) : s.heap.NoLimit := I.ok.mod.nolimit.keeps I.bk
theorem Inv.fr (I : Inv X pins σ H s) : ∃ m, Fr X.base X.env.locals s.heap m :=
  let ⟨m, hn, _⟩ := I.loc
  ⟨m, hn, I.bk, Nat.le_trans I.ok.bsz I.ok.above⟩
theorem Inv.lt (I : Inv X pins σ H s) : X.env.locals < s.heap.objs.size := let ⟨_, hn, _⟩ := I.loc; hn.lt
theorem Inv.sz (I : Inv X pins σ H s) : X.s₀.heap.objs.size ≤ s.heap.objs.size := Nat.le_trans I.ok.above (Nat.le_of_lt I.lt)
theorem Inv.nofs (I : Inv X pins σ H s) {a : Addr} (h : s.heap.objs.size ≤ a) : a ∉ X.fs := fun hb => by
  obtain ⟨_, o, ho, _⟩ := I.ok.funs.mem hb
  exact absurd (Nat.lt_of_lt_of_le (Heap.lt_size ho) (Nat.le_trans I.sz h)) (Nat.lt_irrefl _)
theorem Inv.cne (I : Inv X pins σ H s) : ∀ x c, X.env.cells.lookup x = some c → c ≠ X.env.locals := fun x c e z => by
  obtain ⟨v, o, ho, hd⟩ := I.cell x c e
  obtain ⟨m, ⟨o', es, ep, ho', hd', _⟩, _⟩ := I.loc
  rw [z, ho'] at ho; cases ho; rw [hd'] at hd; cases hd
theorem Inv.funs (I : Inv X pins σ H s) : s.heap.FunFrames X.base X.outer := by
  have all : ∀ (l : List Env), (∀ b ∈ frs l, b ∈ X.fs) → X.s₀.heap.FunFrames X.base l → s.heap.FunFrames X.base l := by
    intro l
    induction l with
    | nil => intro _ _; trivial
    | cons env r ih =>
      intro hs hl
      obtain ⟨hk, ⟨L, o, hf, hn, ho, hd⟩, hr⟩ := hl
      have hL : L ∈ X.fs := hs L (by unfold frs; rw [List.filterMap_cons, hf]; exact List.mem_cons_self)
      obtain ⟨sl, e⟩ := I.base.slot L o ho (I.ok.frf L hL) hL fun z => I.ok.exfs L z hL
      exact ⟨hk, ⟨L, _, hf, hn, e, hd⟩, ih (fun b hb => hs b (by unfold frs; rw [List.filterMap_cons, hf]; exact List.mem_cons_of_mem _ hb)) hr⟩
  exact all X.outer (fun _ hb => hb) I.ok.funs
theorem Inv.stack (I : Inv X pins σ H s) : s.heap.FunFrames X.base X.stack := by
  rcases I.ok.stk with e | ⟨e, hf⟩
  · rw [e]; exact I.funs
  · rw [e]
    obtain ⟨m, hn, _⟩ := I.loc
    refine .cons (by rw [I.ok.kind]; decide) hf hn ?_ I.funs
    exact Heap.get?_none_of_le (Nat.le_trans I.ok.bsz I.ok.above)
theorem Inv.stkSub (I : Inv X pins σ H s) : ∀ b ∈ frs X.stack, b ∈ X.env.locals :: X.fs := fun b hb => by
  rcases I.ok.stk with e | ⟨e, hf⟩
  · rw [e] at hb; exact List.mem_cons_of_mem _ hb
  · rw [e] at hb
    unfold frs at hb
    rw [List.filterMap_cons, hf] at hb
    exact hb
theorem Inv.stkFree (I : Inv X pins σ H s) : ∀ b ∈ frs X.stack, H b = none := fun b hb => by
  rcases List.mem_cons.mp (I.stkSub b hb) with e | hb
  · rw [e]; exact I.free
  · obtain ⟨_, o, ho, _⟩ := I.ok.funs.mem hb
    exact I.base.free b o ho (I.ok.frf b hb) fun z => I.ok.exfs b z hb
theorem Inv.step {g' : Array GenState} {t' : Nat} {d' : Drawn} {ch : List Addr} (I : Inv X pins σ H s)
    (hch : ∀ b ∈ ch, (b ∈ X.ex ∨ X.s₀.heap.objs.size ≤ b) ∧ b ≠ X.env.locals ∧ (∀ x c, X.env.cells.lookup x = some c → c ≠ b) ∧ ∀ p ∈ X.pn ++ pins, p.1 ≠ b)
    (keep : ∀ b o, b ≠ X.env.locals → b ∉ X.fs → b ∉ ch → s.heap.get? b = some o → H b = none → h'.get? b = some o)
    (slot : ∀ b o, b ≠ X.env.locals → b ∈ X.fs → b ∉ ch → s.heap.get? b = some o → H b = none → ∃ sl, h'.get? b = some { o with slots := sl }) (free : ∀ b o, b ∉ ch → s.heap.get? b = some o → H b = none → H' b = none)
    (there : ∀ b o, b ∉ ch → s.heap.get? b = some o → ∃ o', h'.get? b = some o')
    (tups : ∀ b xs, H b = some (.tup xs) → H' b = some (.tup xs)) (frzs : ∀ b o u, H b = some (.frz o u) → H' b = some (.frz o u)) (tbls : ∀ b ps, H b = some (.tbl ps) → ∃ more, H' b = some (.tbl (ps ++ more)))
    (ns : ∀ m, s.heap.Ns X.env.locals m → h'.Ns X.env.locals m) (hok : HOk X.prog X.w H' h') (hg : AllBare g') :
    Inv X pins σ H' { s with heap := h', gens := g', drawn := d', toks := t' } := by
  have neL : ∀ b o, X.s₀.heap.get? b = some o → b ≠ X.env.locals := fun b o e => Nat.ne_of_lt (Nat.lt_of_lt_of_le (Heap.lt_size e) I.ok.above)
  have neC : ∀ b o, X.s₀.heap.get? b = some o → b ∉ X.ex → b ∉ ch := fun b o e hx hb => by
    rcases (hch b hb).1 with z | z
    · exact hx z
    · exact absurd (Nat.lt_of_lt_of_le (Heap.lt_size e) z) (Nat.lt_irrefl _)
  have cellK : ∀ x c, X.env.cells.lookup x = some c → ∀ v, s.heap.IsCell c v → h'.IsCell c v := fun x c e v ⟨o, ho, hd⟩ => by
    have nch : c ∉ ch := fun z => (hch c z).2.2.1 x c e rfl
    by_cases hc : c ∈ X.fs
    · obtain ⟨sl, q⟩ := slot c o (I.cne x c e) hc nch ho (I.freeC x c e)
      exact ⟨_, q, hd⟩
    · exact ⟨o, keep c o (I.cne x c e) hc nch ho (I.freeC x c e), hd⟩
  refine ⟨I.ok, I.os, hg, ⟨fun b o e n hb hx => ?_, fun b o e n hb hx => ?_, fun b o e n hx => ?_, fun b o e hx => ?_, fun b xs e => tups b xs (I.base.tups b xs e), fun b o xs e => frzs b o xs (I.base.frzs b o xs e), fun b ps e => ?_⟩, ?_, fun x c e => ?_, ?_, fun x c e => ?_, fun p hp => ?_, hok, I.len⟩
  · exact keep b o (neL b o e) hb (neC b o e hx) (I.base.keep b o e n hb hx) (I.base.free b o e n hx)
  · obtain ⟨sl, e1⟩ := I.base.slot b o e n hb hx
    obtain ⟨sl', e2⟩ := slot b _ (neL b o e) hb (neC b o e hx) e1 (I.base.free b o e n hx)
    exact ⟨sl', e2⟩
  · obtain ⟨o', e1⟩ := I.base.there b o e hx
    exact free b o' (neC b o e hx) e1 (I.base.free b o e n hx)
  · obtain ⟨o', e1⟩ := I.base.there b o e hx
    exact there b o' (neC b o e hx) e1
  · obtain ⟨m1, e1⟩ := I.base.tbls b ps e
    obtain ⟨m2, e2⟩ := tbls b _ e1
    exact ⟨m1 ++ m2, by rw [e2, Array.append_assoc]⟩
  · obtain ⟨m, hn, hl⟩ := I.loc
    refine ⟨m, ns m hn, fun i x v e1 e2 e3 => ?_⟩
    obtain ⟨u, r, l⟩ := hl i x v e1 e2 e3
    refine ⟨u, r, ?_⟩
    rcases l with l | ⟨k, c, e, z⟩
    · exact .inl l
    · exact .inr ⟨k, c, e, cellK x c e _ z⟩
  · obtain ⟨v, z⟩ := I.cell x c e
    exact ⟨v, cellK x c e v z⟩
  · obtain ⟨m, ⟨o, _, _, ho, _⟩, _⟩ := I.loc
    exact free _ o (fun z => (hch _ z).2.1 rfl) ho I.free
  · obtain ⟨v, o, ho, hd⟩ := I.cell x c e
    exact free c o (fun z => (hch c z).2.2.1 x c e rfl) ho (I.freeC x c e)
  · obtain ⟨e, n, ne, nf, d⟩ := I.pin p hp
    have nch : p.1 ∉ ch := fun z => (hch p.1 z).2.2.2 p hp rfl
    exact ⟨keep p.1 p.2 ne nf nch e n, free p.1 p.2 nch e n, ne, nf, d⟩
theorem Inv.un {t' : Nat} (I : Inv X pins σ H s) (u : Un X.fs [] H H' s.heap h') (hok : HOk X.prog X.w H' h') : Inv X pins σ H' { s with heap := h', toks := t' } := by
  obtain ⟨m, ⟨o, es, ep, ho, r⟩, _⟩ := id I.loc
  obtain ⟨sl, hL⟩ := u.any ho I.free (by simp)
  exact I.step (g' := s.gens) (d' := s.drawn) (ch := []) (fun _ z => nomatch z) (fun b o _ hb _ e n => u.keep b o e n hb (by simp)) (fun b o _ hb _ e n => u.slot b o e n hb (by simp)) (fun b o _ e n => u.free b o e n (by simp)) (fun b o _ e => u.there b o e (by simp)) u.tups u.frzs u.tbls (fun m' hm => by
    obtain ⟨o', es', ep', ho', r'⟩ := hm
    rw [ho] at ho'; cases ho'
    exact ⟨_, es', ep', hL, r'⟩) hok I.bare
theorem Inv.call {g' : Array GenState} {t' : Nat} {d' : Drawn} {ch : List Addr} (I : Inv X pins σ H s) (u : Un (frs X.stack) ch H H' s.heap h') (hok : HOk X.prog X.w H' h') (hg : AllBare g')
    (hch : ∀ b ∈ ch, (b ∈ X.ex ∨ X.s₀.heap.objs.size ≤ b) ∧ b ≠ X.env.locals ∧ (∀ x c, X.env.cells.lookup x = some c → c ≠ b) ∧ ∀ p ∈ X.pn ++ pins, p.1 ≠ b) :
    Inv X pins σ H' { s with heap := h', gens := g', drawn := d', toks := t' } := by
  obtain ⟨m, ⟨o, es, ep, ho, r⟩, _⟩ := id I.loc
  obtain ⟨sl, hL⟩ := u.any ho I.free fun z => (hch _ z).2.1 rfl
  exact I.step (ch := ch) hch (fun b o hL hb hc e n => u.keep b o e n (fun z => (List.mem_cons.mp (I.stkSub b z)).elim hL hb) hc) (fun b o _ _ hc e n => u.any e n hc) (fun b o hc e n => u.free b o e n hc) (fun b o hc e => u.there b o e hc) u.tups u.frzs u.tbls (fun m' hm => by
    obtain ⟨o', es', ep', ho', r'⟩ := hm
    rw [ho] at ho'; cases ho'
    exact ⟨_, es', ep', hL, r'⟩) hok hg
theorem Inv.turned {t' : Nat} {it : Addr} (I : Inv X pins σ H s) (k : ∀ b o, b ≠ it → s.heap.get? b = some o → h'.get? b = some o) (hn : H it = none) (hL : it ≠ X.env.locals)
    (h1 : it ∈ X.ex ∨ X.s₀.heap.objs.size ≤ it) (h2 : ∀ x c, X.env.cells.lookup x = some c → c ≠ it) (h3 : ∀ p ∈ X.pn ++ pins, p.1 ≠ it) : Inv X pins σ H { s with heap := h', toks := t' } := by
  have nit : ∀ b u, H b = some u → b ≠ it := fun b u e z => by rw [z, hn] at e; cases e
  refine I.step (g' := s.gens) (d' := s.drawn) (ch := [it]) (fun b hb => ?_) (fun b o _ _ hc e _ => k b o (fun z => hc (by simp [z])) e) (fun b o _ _ hc e _ => ⟨o.slots, k b o (fun z => hc (by simp [z])) e⟩) (fun _ _ _ _ n => n)
    (fun b o hc e => ⟨o, k b o (fun z => hc (by simp [z])) e⟩) (fun _ _ e => e) (fun _ _ _ e => e) (fun b ps e => ⟨#[], by rw [e]; simp⟩) (fun m hm => ?_) (fun b u e => ?_) I.bare
  · have e : b = it := by simpa using hb
    subst e
    exact ⟨h1, hL, h2, h3⟩
  · obtain ⟨o, es, ep, ho, r⟩ := hm
    exact ⟨o, es, ep, k _ o (Ne.symm hL) ho, r⟩
  · refine (I.hok b u e).stay (fun c v hc q => k c v ?_ q) (fun _ q => q) fun _ _ q => q
    rcases hc with z | z
    · rw [z]; exact nit b u e
    · exact nit c _ z
theorem Inv.tok (I : Inv X pins σ H s) (t : Nat) : Inv X pins σ H { s with toks := t } := I.un (h' := s.heap) (t' := t) Un.refl I.hok
theorem Inv.kept {t' : Nat} (I : Inv X pins σ H s) (k : ∀ b u, s.heap.get? b = some u → h'.get? b = some u) : Inv X pins σ H { s with heap := h', toks := t' } := I.un (Un.kept k) (I.hok.kept k)
theorem Inv.laid {a : Addr} {o : HO} {t' : Nat} (I : Inv X pins σ H s) (k : ∀ b u, s.heap.get? b = some u → h'.get? b = some u) (hp : s.heap.objs.size ≤ a) (new : ObjOk X.prog X.w (upd H a o) h' a o) :
    Inv X pins σ (upd H a o) { s with heap := h', toks := t' } := I.un (Un.laid k hp (I.hok.fresh hp)) (I.hok.laid k hp new)
theorem Inv.write {x e : Addr} {o : HO} {t' : Nat} (I : Inv X pins σ H s) (mu : Mut (H x)) (he : e = x ∨ H e = some (.own x)) (k : ∀ b u, b ≠ e → s.heap.get? b = some u → h'.get? b = some u) (heo : ∃ u, h'.get? e = some u)
    (new : ObjOk X.prog X.w (upd H x o) h' x o) : Inv X pins σ (upd H x o) { s with heap := h', toks := t' } := I.un (Un.write mu he k heo) (I.hok.write mu he k heo new)
theorem Inv.weak {σ' : List (Option V)} (I : Inv X pins σ H s) (hl : σ'.length = σ.length) (w : ∀ (i : Nat) v, σ'[i]? = some (some v) → σ[i]? = some (some v)) : Inv X pins σ' H s :=
  ⟨I.ok, I.os, I.bare, I.base, let ⟨m, hn, hl'⟩ := I.loc; ⟨m, hn, fun i x v e1 e2 e3 => hl' i x v e1 (w i v e2) e3⟩, I.cell, I.free, I.freeC, I.pin, I.hok, hl.trans I.len⟩
theorem Inv.pins_of {pins' : List (Addr × Obj)} (I : Inv X pins σ H s) (h : ∀ p ∈ pins', s.heap.get? p.1 = some p.2 ∧ H p.1 = none ∧ p.1 ≠ X.env.locals ∧ p.1 ∉ X.fs ∧ ∀ v, p.2.data ≠ .cell v) : Inv X pins' σ H s :=
  ⟨I.ok, I.os, I.bare, I.base, I.loc, I.cell, I.free, I.freeC, fun p hp => (List.mem_append.mp hp).elim (fun z => I.pin p (List.mem_append_left _ z)) (h p), I.hok, I.len⟩
theorem nodup_ix {N : List Str} (hN : N.Nodup) {i j : Nat} {x : Str} (a : N[i]? = some x) (b : N[j]? = some x) : i = j := by
  obtain ⟨h1, e1⟩ := List.getElem?_eq_some_iff.mp a
  obtain ⟨h2, e2⟩ := List.getElem?_eq_some_iff.mp b
  exact (List.getElem_inj hN).mp (e1.trans e2.symm)
theorem store_ok2 {M : Model} {A : Around} {E : Value → Shared → Prop} {i : Nat} {x : Str} {v : V} {u : Value} {Q : Unit → Shared → Prop} (I : Inv X pins σ H s) (hN : X.N.Nodup) (hi : X.N[i]? = some x) (hx : Loc X.env.scope x) (r : RelV v u)
    (h : ∀ s', Inv X pins (σ.set i (some v)) H s' → (∃ a, Heap.SameBut a s.heap s'.heap ∧ (a = X.env.locals ∨ X.env.cells.lookup x = some a)) → Q () s') (hf : X.fn x = true ∨ X.env.scope.names.lookup x = some .local := by first | exact .inl rfl | exact .inr rfl | assumption) : wpAny M A (storeName X.env x u) Q E s := by
  obtain ⟨m, hn, hl⟩ := id I.loc
  have hcls : (X.env.scope.kind == .class || (X.env.scope.kind == .module && X.env.locals != X.env.globals)) = false := by rw [I.ok.kind]; rfl
  have hiσ : i < σ.length := by rw [I.len]; exact (List.getElem?_eq_some_iff.mp hi).1
  have cne := I.cne
  have tracked : ∀ {a : Addr} {h' : Heap}, (∃ o, s.heap.get? a = some o ∧ H a = none) → Heap.SameBut a s.heap h' → HOk X.prog X.w H h' := fun {a h'} ha hs b ob e => by
    obtain ⟨_, _, hfree⟩ := ha
    refine (I.hok b ob e).stay (fun c w' hc q => (hs.2 c ?_).trans q) (fun _ q => q) fun _ _ q => q
    rintro rfl
    rcases hc with rfl | hc
    · rw [hfree] at e; cases e
    · rw [hfree] at hc; cases hc
  rcases hx with hk | hk
  · refine wpAny_storeName_local hk hn (fun h' hn' hs => ?_) hcls
    obtain ⟨oL, _, _, hoL, _⟩ := id hn
    refine h _ ⟨I.ok, I.os, I.bare, ⟨fun b o e n hb hx => ?_, fun b o e n hb hx => ?_, I.base.free, fun b o e hx => ?_, I.base.tups, I.base.frzs, I.base.tbls⟩, ⟨_, hn', fun j y v' e1 e2 e3 => ?_⟩, fun y c e => ?_, I.free, I.freeC, fun p hp => ?_, tracked ⟨oL, hoL, I.free⟩ hs, by simpa using I.len⟩ ⟨_, hs, .inl rfl⟩
    · exact (hs.2 b (Nat.ne_of_lt (Nat.lt_of_lt_of_le (Heap.lt_size e) I.ok.above))).trans (I.base.keep b o e n hb hx)
    · obtain ⟨sl, e1⟩ := I.base.slot b o e n hb hx
      exact ⟨sl, (hs.2 b (Nat.ne_of_lt (Nat.lt_of_lt_of_le (Heap.lt_size e) I.ok.above))).trans e1⟩
    · obtain ⟨o', e1⟩ := I.base.there b o e hx
      exact ⟨o', (hs.2 b (Nat.ne_of_lt (Nat.lt_of_lt_of_le (Heap.lt_size e) I.ok.above))).trans e1⟩
    · by_cases hj : j = i
      · subst hj
        rw [hi] at e1; cases e1
        rw [List.getElem?_set_self hiσ] at e2
        cases e2
        exact ⟨u, r, .inl ⟨hk, by simp⟩⟩
      · rw [List.getElem?_set_ne (Ne.symm hj)] at e2
        obtain ⟨u', r', q⟩ := hl j y v' e1 e2 e3
        refine ⟨u', r', ?_⟩
        rcases q with ⟨k, e⟩ | ⟨k, c, e, z⟩
        · refine .inl ⟨k, ?_⟩
          have : y ≠ x := fun e => hj (nodup_ix hN e1 (e ▸ hi))
          simp [this, e]
        · exact .inr ⟨k, c, e, z.sameBut hs (cne y c e)⟩
    · obtain ⟨w', z⟩ := I.cell y c e
      exact ⟨w', z.sameBut hs (cne y c e)⟩
    · obtain ⟨e, n, ne, nf, d⟩ := I.pin p hp
      exact ⟨(hs.2 p.1 ne).trans e, n, ne, nf, d⟩
  · have hfn : X.fn x = true := by
      rcases hf with z | z
      · exact z
      · rw [z] at hk; cases hk
    obtain ⟨c, hc⟩ := I.ok.has x (.inl hk)
    obtain ⟨w', z⟩ := I.cell x c hc
    refine wpAny_storeName_cell I.ok.kind hk hc z (fun h' hc' hs => ?_)
    obtain ⟨oc, hoc, hocd⟩ := id z
    refine h { s with heap := h' } ⟨I.ok, I.os, I.bare, ⟨fun b o e n hb hx => ?_, fun b o e n hb hx => ?_, I.base.free, fun b o e hx => ?_, I.base.tups, I.base.frzs, I.base.tbls⟩, ⟨m, hn.sameBut hs (Ne.symm (cne x c hc)), fun j y v' e1 e2 e3 => ?_⟩, fun y c' e => ?_, I.free, I.freeC, fun p hp => ?_, tracked ⟨oc, hoc, I.freeC x c hc⟩ hs, by simpa using I.len⟩ ⟨c, hs, .inr hc⟩
    · exact (hs.2 b (Nat.ne_of_lt (Nat.lt_of_lt_of_le (Heap.lt_size e) (I.ok.cab x c hfn hc)))).trans (I.base.keep b o e n hb hx)
    · obtain ⟨sl, e1⟩ := I.base.slot b o e n hb hx
      exact ⟨sl, (hs.2 b (Nat.ne_of_lt (Nat.lt_of_lt_of_le (Heap.lt_size e) (I.ok.cab x c hfn hc)))).trans e1⟩
    · obtain ⟨o', e1⟩ := I.base.there b o e hx
      exact ⟨o', (hs.2 b (Nat.ne_of_lt (Nat.lt_of_lt_of_le (Heap.lt_size e) (I.ok.cab x c hfn hc)))).trans e1⟩
    · by_cases hj : j = i
      · subst hj
        rw [hi] at e1; cases e1
        rw [List.getElem?_set_self hiσ] at e2
        cases e2
        exact ⟨u, r, .inr ⟨.inl hk, c, hc, hc'⟩⟩
      · rw [List.getElem?_set_ne (Ne.symm hj)] at e2
        obtain ⟨u', r', q⟩ := hl j y v' e1 e2 e3
        refine ⟨u', r', ?_⟩
        rcases q with q | ⟨k, c', e, z'⟩
        · exact .inl q
        · refine .inr ⟨k, c', e, z'.sameBut hs ?_⟩
          rintro rfl
          exact hj (nodup_ix hN e1 (I.ok.inj _ _ _ e hc ▸ hi))
    · by_cases hcc : c' = c
      · subst hcc; exact ⟨_, hc'⟩
      · obtain ⟨w2, z2⟩ := I.cell y c' e
        exact ⟨w2, z2.sameBut hs hcc⟩
    · obtain ⟨e, n, ne, nf, d⟩ := I.pin p hp
      refine ⟨(hs.2 p.1 ?_).trans e, n, ne, nf, d⟩
      intro q
      rw [q, hoc] at e
      have q' : oc = p.2 := Option.some.inj e
      exact d w' (by rw [← q']; exact hocd)
theorem store_ok {M : Model} {A : Around} {E : Value → Shared → Prop} {i : Nat} {x : Str} {v : V} {u : Value} {Q : Unit → Shared → Prop} (I : Inv X pins σ H s) (hN : X.N.Nodup) (hi : X.N[i]? = some x) (hx : Loc X.env.scope x) (r : RelV v u)
    (h : ∀ s', Inv X pins (σ.set i (some v)) H s' → Q () s') (hf : X.fn x = true ∨ X.env.scope.names.lookup x = some .local := by first | exact .inl rfl | exact .inr rfl | assumption) : wpAny M A (storeName X.env x u) Q E s :=
  store_ok2 I hN hi hx r (fun s' I' _ => h s' I') hf
theorem Inv.call' {s' : Shared} {ch : List Addr} (I : Inv X pins σ H s) (ho : s'.os = s.os) (u : Un (frs X.stack) ch H H' s.heap s'.heap) (hok : HOk X.prog X.w H' s'.heap) (hg : AllBare s'.gens)
    (hch : ∀ b ∈ ch, (b ∈ X.ex ∨ X.s₀.heap.objs.size ≤ b) ∧ b ≠ X.env.locals ∧ (∀ x c, X.env.cells.lookup x = some c → c ≠ b) ∧ ∀ p ∈ X.pn ++ pins, p.1 ≠ b) : Inv X pins σ H' s' := by
  obtain ⟨h', g', d', t', o'⟩ := s'
  have e : o' = s.os := ho
  subst e
  exact I.call (g' := g') (t' := t') (d' := d') u hok hg hch
end
abbrev XK := Value → Option Addr → Hp → Prop
abbrev St := List (Option V)
abbrev VK := V → Hp → Prop
abbrev TE := St → Hp → VK → Prop
abbrev TT := St → Hp → (Bool → Hp → Prop) → Prop
abbrev TA := St → Hp → (List V → Hp → Prop) → Prop
structure Ends where
  nx : St → Hp → Prop
  rt : VK
  bk : St → Hp → Prop := fun _ _ => False
  ct : St → Hp → Prop := fun _ _ => False
abbrev TS := Ends → St → Hp → Prop
def EP (X : Cx) (pins : List (Addr × Obj)) (σ : St) (Q : VK) (u : Value) (s' : Shared) : Prop := ∃ v H', Inv X pins σ H' s' ∧ RelV v u ∧ Q v H'
def TP (X : Cx) (pins : List (Addr × Obj)) (σ : St) (Q : Bool → Hp → Prop) (b : Bool) (s' : Shared) : Prop := ∃ H', Inv X pins σ H' s' ∧ Q b H'
def AP (X : Cx) (pins : List (Addr × Obj)) (σ : St) (Q : List V → Hp → Prop) (us : List Value) (s' : Shared) : Prop := ∃ vs H', Inv X pins σ H' s' ∧ Vals vs us ∧ Q vs H'
def SP (X : Cx) (pins : List (Addr × Obj)) (D : Ends) (f : Flow) (s' : Shared) : Prop :=
  match f with
  | .next => ∃ σ' H', Inv X pins σ' H' s' ∧ D.nx σ' H'
  | .brk => ∃ σ' H', Inv X pins σ' H' s' ∧ D.bk σ' H'
  | .cont => ∃ σ' H', Inv X pins σ' H' s' ∧ D.ct σ' H'
  | .ret u => ∃ v σ' H', Inv X pins σ' H' s' ∧ RelV v u ∧ D.rt v H'
def PE (X : Cx) (e : Expr) (t : TE) : Prop :=
  ∀ (pins : List (Addr × Obj)) (s : Shared) (σ : St) (H : Hp) (Q : VK), Inv X pins σ H s → t σ H Q → wpAny (model X.prog X.w) X.A (eval e X.env) (EP X pins σ Q) X.xe s
def PT (X : Cx) (e : Expr) (t : TT) : Prop :=
  ∀ (pins : List (Addr × Obj)) (s : Shared) (σ : St) (H : Hp) (Q : Bool → Hp → Prop), Inv X pins σ H s → t σ H Q → wpAny (model X.prog X.w) X.A (isTrue e X.env (eval e X.env)) (TP X pins σ Q) X.xe s
def PW (X : Cx) (e : Expr) (t : TT) : Prop :=
  ∀ (whole : Sem Value) (pins : List (Addr × Obj)) (s : Shared) (σ : St) (H : Hp) (Q : Bool → Hp → Prop), Inv X pins σ H s → t σ H Q → wpAny (model X.prog X.w) X.A (isTrue e X.env whole) (TP X pins σ Q) X.xe s
theorem PW.pt {X : Cx} {e : Expr} {t : TT} (h : PW X e t) : PT X e t := h _
def PA (X : Cx) (es : List Expr) (t : TA) : Prop :=
  ∀ (pos : Pos) (pins : List (Addr × Obj)) (s : Shared) (σ : St) (H : Hp) (Q : List V → Hp → Prop), Inv X pins σ H s → t σ H Q → wpAny (model X.prog X.w) X.A (spliced (backTo pos (starEach es X.env))) (AP X pins σ Q) X.xe s
def PS (X : Cx) (st : Stmt) (t : TS) : Prop :=
  ∀ (pins : List (Addr × Obj)) (s : Shared) (σ : St) (H : Hp) (D : Ends), Inv X pins σ H s → t D σ H → wpAny (model X.prog X.w) X.A (exec st X.env) (SP X pins D) X.xe s
def PSs (X : Cx) (st : List Stmt) (t : TS) : Prop :=
  ∀ (pins : List (Addr × Obj)) (s : Shared) (σ : St) (H : Hp) (D : Ends), Inv X pins σ H s → t D σ H → wpAny (model X.prog X.w) X.A (execs st X.env) (SP X pins D) X.xe s
theorem thn {α : Type} {t : Sem α} {Q Q' : α → Shared → Prop} {M : Model} {A : Around} {E : Value → Shared → Prop} {s : Shared} (h : wpAny M A t Q E s) (hQ : ∀ a s, Q a s → Q' a s) : wpAny M A t Q' E s := wpAny_mono h hQ fun _ _ x => x
end L2
namespace L2
open PySem PySem.Spec PyProof.Rows
section
variable {X : Cx}
def tVar (i : Nat) : TE := fun σ H Q => ∃ v, σ[i]? = some (some v) ∧ Q v H
def tC (v : V) : TE := fun _ H Q => Q v H
theorem pe_var {i : Nat} {x : Str} {pos : Pos} (hN : X.N[i]? = some x) (hv : Vis X.env.scope x) (hd : (x == ("__debug__" : Str)) = false := by decide) (hcd : (x == ("__classdict__" : Str)) = false := by decide) : PE X (.Name x pos) (tVar i) := by
  intro pins s σ H Q I h
  obtain ⟨v, e, h⟩ := h
  obtain ⟨m, hn, hl⟩ := I.loc
  obtain ⟨u, r, l⟩ := hl i x v hN e hv
  have fin : EP X pins σ Q u s := ⟨v, H, I, r, h⟩
  rcases l with ⟨hk, hm⟩ | ⟨hk, c, hc, hcell⟩
  · exact wpAny_Name (wpAny_loadName_local I.ok.kind hk hn hm fin) hd
  · rcases hk with hk | hk
    · exact wpAny_Name (wpAny_loadName_cell I.ok.kind hk hc hcell fin) hd
    · exact wpAny_Name (wpAny_loadName_free I.ok.kind hk hc hcell fin hcd) hd
theorem pe_int {i j pos} : PE X (.Constant (.int i) j pos) (tC (.int i)) := fun _ _ _ H _ I h => wpAny_Constant_int ⟨.int i, H, I.tok _, ⟨_, rfl⟩, h⟩
theorem pe_bl {b j pos} : PE X (.Constant (.bool b) j pos) (tC (.bl b)) := fun _ _ _ H _ I h => Constant_bool ⟨.bl b, H, I, rfl, h⟩
theorem pe_non {j pos} : PE X (.Constant .none j pos) (tC .non) := fun _ _ _ H _ I h => Constant_none ⟨.non, H, I, rfl, h⟩
theorem pe_str {x j pos} : PE X (.Constant (.str x) j pos) (tC (.str x)) := fun _ _ _ H _ I h => Calls.Constant_str ⟨.str x, H, I.tok _, ⟨_, rfl⟩, h⟩
def Gl (X : Cx) (x : Str) : Prop := X.env.kindOf x = some .globalImplicit
theorem ld_glob {E : Value → Shared → Prop} {pins : List (Addr × Obj)} {s : Shared} {σ : St} {H : Hp} {x : Str} {u : Value} {pos : Pos} {Q : Value → Shared → Prop} (I : Inv X pins σ H s) (hg : Gl X x) (hm : X.mg x = some u) (h : Q u s)
    (hd : (x == ("__debug__" : Str)) = false := by decide) : wpAny (model X.prog X.w) X.A (eval (.Name x pos) X.env) Q E s :=
  Calls.Name_function_global I.ok.kind hg (Calls.loadGlobal_global (by rw [I.ok.glob]; exact I.mod.glob.keeps I.bk) hm h) hd
theorem ld_blt {E : Value → Shared → Prop} {pins : List (Addr × Obj)} {s : Shared} {σ : St} {H : Hp} {x : Str} {u : Value} {pos : Pos} {Q : Value → Shared → Prop} (I : Inv X pins σ H s) (hg : Gl X x) (hm : X.mg x = none) (hv : bootBuiltins x = some u) (h : Q u s)
    (hn : x ≠ "__name__" := by decide) (hd : (x == ("__debug__" : Str)) = false := by decide) : wpAny (model X.prog X.w) X.A (eval (.Name x pos) X.env) Q E s := by
  obtain ⟨mb, h1, h2⟩ := I.mod.blt
  exact Calls.Name_function_global I.ok.kind hg (Calls.loadGlobal_builtin (by rw [I.ok.glob]; exact I.mod.glob.keeps I.bk) hm (by rw [I.ok.blt]; exact h1.keeps I.bk) ((h2 x hn).trans hv) h) hd
theorem pe_glob {x : Str} {v : V} {u : Value} {pos : Pos} (hg : Gl X x) (hm : X.mg x = some u) (r : RelV v u) (hd : (x == ("__debug__" : Str)) = false := by decide) : PE X (.Name x pos) (tC v) :=
  fun _ _ _ H _ I h => ld_glob I hg hm ⟨v, H, I, r, h⟩ hd
theorem pe_bltn {x : Str} {v : V} {u : Value} {pos : Pos} (hg : Gl X x) (hm : X.mg x = none) (hv : bootBuiltins x = some u) (r : RelV v u) (hn : x ≠ "__name__" := by decide) (hd : (x == ("__debug__" : Str)) = false := by decide) : PE X (.Name x pos) (tC v) :=
  fun _ _ _ H _ I h => ld_blt I hg hm hv ⟨v, H, I, r, h⟩ hn hd
variable {a b : Expr} {ta tb : TE} {pos : Pos}
def tB (t : TE) : TT := fun σ H Q => t σ H fun x H1 => ∃ c, x = .bl c ∧ Q c H1
theorem pt_val {e : Expr} {t : TE} (h : PE X e t) (he : ∀ whole, isTrue e X.env whole = (do let v ← whole; standAt e.pos; holding [v] (truthy v)) := by intro _; rfl) : PT X e (tB t) := by
  intro pins s σ H Q I hw
  refine isTrue_plain (thn (h pins s σ H _ I hw) fun v s1 ⟨x, H1, I1, r1, q1⟩ => ?_) (he _)
  obtain ⟨d, rfl, q⟩ := q1
  cases r1
  exact wpAny_truthy_bool ⟨H1, I1, q⟩
variable {tA tB' : TT} {rest : List Expr}
def tAnd (t u : TT) : TT := fun σ H Q => t σ H fun c H1 => if c = true then u σ H1 Q else Q false H1
def tOr (t u : TT) : TT := fun σ H Q => t σ H fun c H1 => if c = true then Q true H1 else u σ H1 Q
def tNot (t : TT) : TT := fun σ H Q => t σ H fun c H1 => Q (!c) H1
theorem pw_and1 (ha : PT X a tA) : PW X (.BoolOp .And [a] pos) tA := by
  intro wh pins s σ H Q I h
  refine isTrue_and (thn (ha pins s σ H Q I h) fun c s1 e => ?_)
  cases c with
  | true => exact isTrue_and_nil e
  | false => exact e
theorem pw_or1 (ha : PT X a tA) : PW X (.BoolOp .Or [a] pos) tA := by
  intro wh pins s σ H Q I h
  refine isTrue_or (thn (ha pins s σ H Q I h) fun c s1 e => ?_)
  cases c with
  | false => exact isTrue_or_nil e
  | true => exact e
theorem pw_and (ha : PT X a tA) (hb : PW X (.BoolOp .And (b :: rest) pos) tB') : PW X (.BoolOp .And (a :: b :: rest) pos) (tAnd tA tB') := by
  intro wh pins s σ H Q I h
  refine isTrue_and (thn (ha pins s σ H _ I h) fun c s1 ⟨H1, I1, q1⟩ => ?_)
  cases c with
  | true => exact hb wh pins s1 σ H1 Q I1 q1
  | false => exact ⟨H1, I1, q1⟩
theorem pw_or (ha : PT X a tA) (hb : PW X (.BoolOp .Or (b :: rest) pos) tB') : PW X (.BoolOp .Or (a :: b :: rest) pos) (tOr tA tB') := by
  intro wh pins s σ H Q I h
  refine isTrue_or (thn (ha pins s σ H _ I h) fun c s1 ⟨H1, I1, q1⟩ => ?_)
  cases c with
  | true => exact ⟨H1, I1, q1⟩
  | false => exact hb wh pins s1 σ H1 Q I1 q1
theorem pt_not (ha : PT X a tA) : PT X (.UnaryOp .Not a pos) (tNot tA) := by
  intro pins s σ H Q I h
  exact isTrue_not (ha pins s σ H (fun c H1 => Q (!c) H1) I h)
def tAndV (ta tb : TE) : TE := fun σ H Q => ta σ H fun x H1 => ∃ c, x = .bl c ∧ if c = true then tb σ H1 Q else Q (.bl false) H1
def tOrV (ta tb : TE) : TE := fun σ H Q => ta σ H fun x H1 => ∃ c, x = .bl c ∧ if c = true then Q (.bl true) H1 else tb σ H1 Q
def tNotV (ta : TE) : TE := fun σ H Q => ta σ H fun x H1 => ∃ c, x = .bl c ∧ Q (.bl (!c)) H1
theorem pe_one {op} {t : TE} (h : PE X a t) : PE X (.BoolOp op [a] pos) t := fun pins s σ H Q I hw => BoolOp_one (h pins s σ H Q I hw)
theorem pe_and (ha : PE X a ta) (hb : PE X (.BoolOp .And (b :: rest) pos) tb) : PE X (.BoolOp .And (a :: b :: rest) pos) (tAndV ta tb) := by
  intro pins s σ H Q I h
  refine BoolOp_and (thn (ha pins s σ H _ I h) fun v s1 ⟨x, H1, I1, r1, q1⟩ => ?_)
  obtain ⟨c, rfl, q1⟩ := q1
  cases r1
  refine wpAny_truthy_bool ?_
  cases c with
  | true => exact hb pins s1 σ H1 Q I1 q1
  | false => exact ⟨.bl false, H1, I1, rfl, q1⟩
theorem pe_not (ha : PE X a ta) : PE X (.UnaryOp .Not a pos) (tNotV ta) := by
  intro pins s σ H Q I h
  refine UnaryOp_ (thn (ha pins s σ H _ I h) fun v s1 ⟨x, H1, I1, r1, q1⟩ => ?_)
  obtain ⟨c, rfl, q1⟩ := q1
  cases r1
  exact not_of (wpAny_truthy_bool ⟨.bl (!c), H1, I1, rfl, q1⟩)
end
end L2
namespace L2
open PySem PySem.Spec PyProof.Rows
def SqL (K : PySem.W.Frag) (H : Hp) (a : Addr) (xs : List V) : Prop :=
  Rd H a (.lst xs) ∨
    ∃ (o : Obj) (its : Array Value) (n : Nat), K.lookup a = some o ∧ o.cls = .type "list" ∧ o.dict = none ∧ o.data = .seq its n ∧ its.size ≤ sizeLine ∧ Vals xs its.toList
def SqT (K : PySem.W.Frag) (H : Hp) (a : Addr) (xs : List V) : Prop :=
  Rd H a (.tup xs) ∨
    ∃ (o : Obj) (its : Array Value) (n : Nat), K.lookup a = some o ∧ o.cls = .type "tuple" ∧ o.data = .seq its n ∧ its.size ≤ sizeLine ∧ Vals xs its.toList
def absV : Value → Option V
  | .none => some .non
  | .bool b => some (.bl b)
  | .int i _ => some (.int i)
  | .str x _ => some (.str x)
  | .bytes b _ => some (.byt b)
  | .float b _ => some (.flt b)
  | .ref a => some (.ref a)
  | .type n => some (.ty n)
  | _ => none
theorem RelV.abs {x : V} {u : Value} (r : RelV x u) : absV u = some x := by
  cases x with
  | non => cases r; rfl
  | bl _ => cases r; rfl
  | int _ => obtain ⟨t, rfl⟩ := r; rfl
  | str _ => obtain ⟨t, rfl⟩ := r; rfl
  | byt _ => obtain ⟨t, rfl⟩ := r; rfl
  | flt _ => obtain ⟨t, rfl⟩ := r; rfl
  | ref _ => cases r; rfl
  | ty _ => cases r; rfl
theorem RelV.inj {x y : V} {u : Value} (r : RelV x u) (q : RelV y u) : x = y := Option.some.inj (r.abs.symm.trans q.abs)
theorem Vals.inj : ∀ {xs ys : List V} {us : List Value}, Vals xs us → Vals ys us → xs = ys
  | _, _, _, .nil, .nil => rfl
  | _, _, _, .cons r t, .cons r' t' => by rw [r.inj r', Vals.inj t t']
section
variable {X : Cx} {pins : List (Addr × Obj)} {σ : St} {H : Hp} {s : Shared} {a : Addr} {xs ys : List V}
theorem SqL.of {K : PySem.W.Frag} (h : H a = some (.lst xs)) : SqL K H a xs := .inl (.inl h)
theorem SqT.of {K : PySem.W.Frag} (h : H a = some (.tup xs)) : SqT K H a xs := .inl (.inl h)
theorem Inv.list (I : Inv X pins σ H s) (h : SqL X.K H a xs) : ∃ its : List Value, Vals xs its ∧ PlainL s.heap a its.toArray ∧ xs.length ≤ sizeLine := by
  rcases h with h | ⟨o, its, n, hk, hc, hd, hs, hz, r⟩
  · obtain ⟨z, its, n, r, e⟩ := h.ok I.hok
    exact ⟨its, r, ⟨_, n, e, rfl, rfl, rfl⟩, z⟩
  · refine ⟨its.toList, r, ⟨o, n, I.kIn a o hk, hc, hd, by simpa using hs⟩, ?_⟩
    have e := r.length
    simp only [Array.length_toList] at e
    omega
theorem Inv.tuple (I : Inv X pins σ H s) (h : SqT X.K H a xs) : ∃ its : List Value, Vals xs its ∧ IsTup s.heap a its.toArray ∧ xs.length ≤ sizeLine := by
  rcases h with h | ⟨o, its, n, hk, hc, hs, hz, r⟩
  · obtain ⟨z, its, r, p⟩ := h.ok I.hok
    exact ⟨its, r, p, z⟩
  · refine ⟨its.toList, r, ⟨o, I.kIn a o hk, hc, n, by simpa using hs⟩, ?_⟩
    have e := r.length
    simp only [Array.length_toList] at e
    omega
theorem Inv.list_inj (I : Inv X pins σ H s) (h : SqL X.K H a xs) (h' : SqL X.K H a ys) : xs = ys := by
  obtain ⟨its, r, ⟨o, n, e, _, _, d⟩, _⟩ := I.list h
  obtain ⟨its', r', ⟨o', n', e', _, _, d'⟩, _⟩ := I.list h'
  rw [e] at e'; cases e'
  rw [d] at d'
  injection d' with d1 _
  have : its = its' := by simpa using congrArg Array.toList d1
  subst this
  exact r.inj r'
end
abbrev Cx.wish (X : Cx) (E : Value → Shared → Prop) : Cx := { X with xe := E }
abbrev Cx.nox (X : Cx) : Cx := X.wish fun _ _ => False
theorem Cx.Ok.wish {X : Cx} (ok : X.Ok) (E : Value → Shared → Prop) : (X.wish E).Ok :=
  ⟨ok.mod, ok.kind, ok.glob, ok.blt, ok.above, ok.inj, ok.has, ok.cab, ok.hd, ok.frames, ok.stk, ok.exf, ok.bs, ok.bsz, ok.noex, ok.exfs, ok.funs, ok.frf⟩
theorem Cx.Ok.unwish {X : Cx} {E : Value → Shared → Prop} (ok : (X.wish E).Ok) : X.Ok :=
  ⟨ok.mod, ok.kind, ok.glob, ok.blt, ok.above, ok.inj, ok.has, ok.cab, ok.hd, ok.frames, ok.stk, ok.exf, ok.bs, ok.bsz, ok.noex, ok.exfs, ok.funs, ok.frf⟩
section
variable {X : Cx} {pins : List (Addr × Obj)} {σ : St} {H : Hp} {s : Shared} {E : Value → Shared → Prop}
theorem Inv.wish (I : Inv X pins σ H s) (E : Value → Shared → Prop) : Inv (X.wish E) pins σ H s := ⟨I.ok.wish E, I.os, I.bare, I.base, I.loc, I.cell, I.free, I.freeC, I.pin, I.hok, I.len⟩
theorem Inv.unwish (I : Inv (X.wish E) pins σ H s) : Inv X pins σ H s := ⟨I.ok.unwish, I.os, I.bare, I.base, I.loc, I.cell, I.free, I.freeC, I.pin, I.hok, I.len⟩
theorem SP.unwish {D : Ends} {f : Flow} {s' : Shared} (h : SP (X.wish E) pins D f s') : SP X pins D f s' := by
  cases f with
  | next => obtain ⟨σ', H', I, q⟩ := h; exact ⟨σ', H', I.unwish, q⟩
  | brk => obtain ⟨σ', H', I, q⟩ := h; exact ⟨σ', H', I.unwish, q⟩
  | cont => obtain ⟨σ', H', I, q⟩ := h; exact ⟨σ', H', I.unwish, q⟩
  | ret u => obtain ⟨v, σ', H', I, r, q⟩ := h; exact ⟨v, σ', H', I.unwish, r, q⟩
theorem PE.nox {e : Expr} {t : TE} (h : PE X.nox e t) : PE X e t := fun pins s σ H Q I hw =>
  wpAny_mono (h pins s σ H Q (I.wish _) hw) (fun _ _ ⟨v, H', I', r, q⟩ => ⟨v, H', I'.unwish, r, q⟩) fun _ _ z => False.elim z
theorem PT.nox {e : Expr} {t : TT} (h : PT X.nox e t) : PT X e t := fun pins s σ H Q I hw =>
  wpAny_mono (h pins s σ H Q (I.wish _) hw) (fun _ _ ⟨H', I', q⟩ => ⟨H', I'.unwish, q⟩) fun _ _ z => False.elim z
theorem PSs.nox {st : List Stmt} {t : TS} (h : PSs X.nox st t) : PSs X st t := fun pins s σ H D I hw =>
  wpAny_mono (h pins s σ H D (I.wish _) hw) (fun _ _ q => q.unwish) fun _ _ z => False.elim z
end
section
variable {X : Cx} {st : Stmt} {rest : List Stmt} {t u : TS} {e : Expr} {te : TE} {pos : Pos}
def tNext : TS := fun D σ H => D.nx σ H
def tSeq (t u : TS) : TS := fun D σ H => t { D with nx := u D } σ H
theorem pss_nil : PSs X [] tNext := fun _ _ σ H _ I h => wpAny_execs_nil ⟨σ, H, I, h⟩
theorem pss_cons (h1 : PS X st t) (h2 : PSs X rest u) : PSs X (st :: rest) (tSeq t u) := by
  intro pins s σ H D I h
  refine wpAny_execs_cons (thn (h1 pins s σ H { D with nx := u D } I h) fun f s1 q => ?_)
  cases f with
  | next =>
    obtain ⟨σ', H', I', q⟩ := q
    exact h2 pins s1 σ' H' D I' q
  | ret v => exact q
  | brk => exact q
  | cont => exact q
theorem pss_one (h1 : PS X st t) : PSs X [st] t := by
  intro pins s σ H D I h
  refine wpAny_execs_cons (thn (h1 pins s σ H D I h) fun f s1 q => ?_)
  cases f with
  | next => exact wpAny_execs_nil q
  | ret v => exact q
  | brk => exact q
  | cont => exact q
theorem Inv.quiet {pins : List (Addr × Obj)} {σ : St} {H : Hp} {s : Shared} (I : Inv X pins σ H s) : interactive X.env = false := by simp [interactive, I.ok.kind]
def tDrop (te : TE) : TS := fun D σ H => te σ H fun _ H1 => D.nx σ H1
theorem ps_expr (he : PE X e te) (hs : swapsWith e none pos.line X.env = pure false := by rfl) : PS X (.Expr e pos) (tDrop te) := by
  intro pins s σ H D I h
  exact wpAny_Expr_any (thn (he pins s σ H _ I h) fun v s1 ⟨x, H1, I1, r1, q1⟩ => ⟨σ, H1, I1, q1⟩) I.quiet hs
def tRet (te : TE) : TS := fun D σ H => te σ H D.rt
theorem ps_ret (he : PE X e te) : PS X (.Return (some e) pos) (tRet te) := by
  intro pins s σ H D I h
  exact wpAny_Return_some (thn (he pins s σ H _ I h) fun v s1 ⟨x, H1, I1, r1, q1⟩ => ⟨x, σ, H1, I1, r1, q1⟩)
def tRetN : TS := fun D _ H => D.rt .non H
def tIfS (c : TT) (t u : TS) : TS := fun D σ H => c σ H fun b H1 => if b = true then t D σ H1 else u D σ H1
theorem ps_if {c : Expr} {a b : List Stmt} {tc : TT} (hc : PT X c tc) (ha : PSs X a t) (hb : PSs X b u) : PS X (.If c a b pos) (tIfS tc t u) := by
  intro pins s σ H D I h
  refine wpAny_If (thn (hc pins s σ H _ I h) fun d s1 ⟨H1, I1, q1⟩ => ?_)
  cases d with
  | true => exact ha pins s1 σ H1 D I1 q1
  | false => exact hb pins s1 σ H1 D I1 q1
def tNever : TS := fun _ _ _ => False
end
abbrev TG := V → St → Hp → (St → Hp → Prop) → Prop
abbrev TGs := List V → St → Hp → (St → Hp → Prop) → Prop
def PG (X : Cx) (target : Expr) (t : TG) : Prop :=
  ∀ (pins : List (Addr × Obj)) (s : Shared) (σ : St) (H : Hp) (v : V) (u : Value) (Q : St → Hp → Prop), Inv X pins σ H s → RelV v u → t v σ H Q →
    wpAny (model X.prog X.w) X.A (assign target X.env u) (fun _ s' => ∃ σ' H', Inv X pins σ' H' s' ∧ Q σ' H') X.xe s
abbrev TSet := V → V → V → Hp → (Hp → Prop) → Prop
section
variable {X : Cx} {pos : Pos}
def gName (i : Nat) : TG := fun v σ H Q => Q (σ.set i (some v)) H
theorem pg_name {i : Nat} {x : Str} (hN : X.N.Nodup) (hi : X.N[i]? = some x) (hx : Loc X.env.scope x) (hf : X.fn x = true ∨ X.env.scope.names.lookup x = some .local := by first | exact .inl rfl | exact .inr rfl | assumption) : PG X (.Name x pos) (gName i) := by
  intro pins s σ H v u Q I r h
  exact wpAny_assign_Name (store_ok I hN hi hx r (fun s' I' => ⟨_, H, I', h⟩) hf)
def gNil : TGs := fun vs σ H Q => vs = [] ∧ Q σ H
def gCons (t : TG) (u : TGs) : TGs := fun vs σ H Q => ∃ v r, vs = v :: r ∧ t v σ H fun σ' H' => u r σ' H' Q
def gTup (K : PySem.W.Frag) (n : Nat) (t : TGs) : TG := fun v σ H Q => ∃ a xs, v = .ref a ∧ SqT K H a xs ∧ xs.length = n ∧ t xs σ H Q
def gSub (to ti : TE) (t : TSet) : TG := fun v σ H Q => to σ H fun o H1 => ti σ H1 fun i H2 => t o i v H2 fun H3 => Q σ H3
def tAsg (te : TE) (g : TG) : TS := fun D σ H => te σ H fun x H1 => g x σ H1 D.nx
theorem ps_set {i : Nat} {x : Str} {e : Expr} {te : TE} {pos' : Pos} (hN : X.N.Nodup) (hi : X.N[i]? = some x) (hx : Loc X.env.scope x) (he : PE X e te) (hs : swapsWith e (some (.Name x pos')) pos.line X.env = pure false := by rfl) (hf : X.fn x = true ∨ X.env.scope.names.lookup x = some .local := by first | exact .inl rfl | exact .inr rfl | assumption) :
    PS X (.Assign [.Name x pos'] e pos) (tAsg te (gName i)) := by
  intro pins s σ H D I h
  refine wpAny_Assign_Name (thn (he pins s σ H _ I h) fun v s1 ⟨y, H1, I1, r1, q1⟩ => ?_) hs
  exact store_ok I1 hN hi hx r1 (fun s2 I2 => ⟨_, H1, I2, q1⟩) hf
def tPar (i j : Nat) (ta : TA) : TS := fun D σ H => ta σ H fun vs H1 => ∃ v w, vs = [v, w] ∧ D.nx ((σ.set i (some v)).set j (some w)) H1
end
section
variable {X : Cx} {pos : Pos}
def tWhile (c : TT) (tb : TS) : TS := fun D σ H => ∃ W : Nat → St → Hp → Prop, (∃ m, W m σ H) ∧ ∀ m σ H, W m σ H →
  c σ H fun b H1 => if b = true then ∃ N : St → Hp → Prop, (∀ σ' H', N σ' H' → ∃ m', m' < m ∧ W m' σ' H') ∧ tb { D with nx := N, ct := N, bk := D.nx } σ H1 else D.nx σ H1
end
structure It where
  go : Nat → Hp → Prop
  yld : Nat → Hp → V → Hp → Prop
  stop : Nat → Hp → Prop
def FpOk (X : Cx) (pins : List (Addr × Obj)) (H : Hp) (b : Addr) : Prop :=
  H b = none ∧ b ≠ X.env.locals ∧ b ∉ X.fs ∧ (b ∈ X.ex ∨ X.s₀.heap.objs.size ≤ b) ∧ (∀ x c, X.env.cells.lookup x = some c → c ≠ b) ∧ ∀ p ∈ X.pn ++ pins, p.1 ≠ b
theorem Inv.fpOk {X : Cx} {pins : List (Addr × Obj)} {σ : St} {H H' : Hp} {s : Shared} {b : Addr} (I : Inv X pins σ H s) (hb : s.heap.objs.size ≤ b) (hn : H' b = none) : FpOk X pins H' b := by
  refine ⟨hn, Nat.ne_of_gt (Nat.lt_of_lt_of_le I.lt hb), I.nofs hb, .inr (Nat.le_trans I.sz hb), fun x c e z => ?_, fun p hp z => ?_⟩
  · obtain ⟨v, q⟩ := I.cell x c e
    exact absurd (Nat.lt_of_lt_of_le q.lt (by rw [z]; exact hb)) (Nat.lt_irrefl _)
  · exact absurd (Nat.lt_of_lt_of_le (Heap.lt_size (I.pin p hp).1) (by rw [z]; exact hb)) (Nat.lt_irrefl _)
structure Turn (P : Program) (w : World) (K : PySem.W.Frag) (tg : Expr) (J : It) (fp : List Addr) (it : Addr) (tn : Nat → Heap → Prop) : Prop where
  mem : it ∈ fp
  obj : ∀ i h, tn i h → ∀ b ∈ fp, ∃ o, h.get? b = some o ∧ ∀ v, o.data ≠ .cell v
  keep : ∀ i h h', tn i h → (∀ b ∈ fp, ∀ o, h.get? b = some o → h'.get? b = some o) → tn i h'
  item : ∀ (X : Cx), X.prog = P → X.w = w → X.K = K → X.calm = true → ∀ (i : Nat) (pins : List (Addr × Obj)) (s : Shared) (σ : St) (H : Hp) (E : Value → Shared → Prop), Inv X pins σ H s → (∀ b ∈ fp, FpOk X pins H b) → tn i s.heap → J.go i H →
    wpAny (model P w) X.A (pyNext (.ref it)) (fun r s1 => ∃ u, r = some u ∧
      wpAny (model P w) X.A (letOwnedTupleGo tg (.ref it) u) (fun _ s2 => ∃ x H', Inv X pins σ H' s2 ∧ RelV x u ∧ J.yld i H x H' ∧ tn (i + 1) s2.heap ∧ ∀ b ∈ fp, H' b = none) E s1) E s
  done : ∀ (X : Cx), X.prog = P → X.w = w → X.K = K → X.calm = true → ∀ (i : Nat) (pins : List (Addr × Obj)) (s : Shared) (σ : St) (H : Hp) (E : Value → Shared → Prop), Inv X pins σ H s → (∀ b ∈ fp, FpOk X pins H b) → tn i s.heap → J.stop i H →
    wpAny (model P w) X.A (pyNext (.ref it)) (fun r s1 => r = none ∧ Inv X pins σ H s1) E s
  self : ∀ (A : Around) (i : Nat) (s : Shared) (Q : Value → Shared → Prop) (E : Value → Shared → Prop), tn i s.heap → Q (.ref it) s → wpAny (model P w) A (pyIter (.ref it)) Q E s
abbrev TI := St → Hp → (It → Hp → Prop) → Prop
def PIE (X : Cx) (pins : List (Addr × Obj)) (σ : St) (tg : Expr) (R : It → Hp → Prop) (itv : Value) (s2 : Shared) : Prop :=
  ∃ (it : Addr) (fp : List Addr) (tn : Nat → Heap → Prop) (J : It) (H' : Hp), itv = .ref it ∧ Inv X pins σ H' s2 ∧ Turn X.prog X.w X.K tg J fp it tn ∧ tn 0 s2.heap ∧ (∀ b ∈ fp, FpOk X pins H' b) ∧ R J H'
def PI (X : Cx) (tg iter : Expr) (wi : TI) : Prop :=
  ∀ (pins : List (Addr × Obj)) (s : Shared) (σ : St) (H : Hp) (R : It → Hp → Prop), Inv X pins σ H s → wi σ H R →
    wpAny (model X.prog X.w) X.A (eval iter X.env) (fun v s1 => wpAny (model X.prog X.w) X.A (pyIter v) (PIE X pins σ tg R) X.xe s1) X.xe s
theorem go_of {M : Model} {A : Around} {E : Value → Shared → Prop} {s : Shared} {tg : Expr} {it : Addr} {u : Value} {o : Obj} {n : String} {vs : Array Value} {Q : Unit → Shared → Prop} (ho : s.heap.get? it = some o) (hc : o.cls = .type n) (hd : o.data = .fields vs)
    (hn : ["enumerate", "zip", "dict_itemiterator", "dict_reverseitemiterator", "odict_iterator", "itertools.zip_longest", "itertools.pairwise"].contains n = false) (hQ : Q () s) : wpAny M A (letOwnedTupleGo tg (.ref it) u) Q E s := by
  unfold letOwnedTupleGo
  cases tg <;> first
    | exact wpAny_pure hQ
    | (cases u <;> first
        | exact wpAny_pure hQ
        | (refine wpAny_bind (wpAny_load ho ?_)
           rw [hc, hd]
           show wpAny M A (if (["enumerate", "zip", "dict_itemiterator", "dict_reverseitemiterator", "odict_iterator", "itertools.zip_longest", "itertools.pairwise"].contains n && vs[0]? == some (rawInt _)) = true then _ else _) Q E s
           rw [if_neg (by intro h; rw [hn, Bool.false_and] at h; cases h)]
           exact wpAny_pure hQ))
def Itl (K : PySem.W.Frag) (a : Addr) : It :=
  ⟨fun i H => ∃ xs x, SqL K H a xs ∧ xs[i]? = some x, fun i H x H' => H' = H ∧ ∀ xs, SqL K H a xs → xs[i]? = some x, fun i H => ∃ xs, SqL K H a xs ∧ xs.length ≤ i⟩
def Itt (K : PySem.W.Frag) (a : Addr) : It :=
  ⟨fun i H => ∃ xs x, SqT K H a xs ∧ xs[i]? = some x, fun i H x H' => H' = H ∧ ∀ xs, SqT K H a xs → xs[i]? = some x, fun i H => ∃ xs, SqT K H a xs ∧ xs.length ≤ i⟩
def Itr (lo : Int) (n : Nat) : It := ⟨fun i _ => i < n, fun i H x H' => H' = H ∧ x = .int (lo + i), fun i _ => n ≤ i⟩
theorem turn_list {P : Program} {w : World} {K : PySem.W.Frag} {tg : Expr} (a it : Addr) : Turn P w K tg (Itl K a) [it] it (fun i h => h.IsListIter it a i) where
  mem := by simp
  obj := fun i h st b hb => by
    have e : b = it := by simpa using hb
    subst e
    obtain ⟨o, e, c, d⟩ := st
    exact ⟨o, e, fun v z => by rw [d] at z; cases z⟩
  keep := fun i h h' st k => st.at fun o e => k it (by simp) o e
  item := by
    intro X hP hw hK hc i pins s σ H E I hf st hg
    subst hP hw hK
    obtain ⟨xs, x, hq, hx⟩ := hg
    obtain ⟨its, rv, p, hz⟩ := I.list hq
    obtain ⟨u, hu, ru⟩ := rv.get hx
    obtain ⟨f0, f1, f2, f3, f4, f5⟩ := hf it (by simp)
    refine wpAny_pyNext_list_item st p.isList (x := u) (by simpa using hu) fun h' st' sb => ?_
    have I1 : Inv X pins σ H { s with heap := h' } := I.turned (t' := s.toks) (fun b o hb e => (sb.2 b hb).trans e) f0 f1 f3 f4 f5
    obtain ⟨o, e, c, d⟩ := id st'
    exact ⟨u, rfl, go_of (s := { s with heap := h' }) e c d (by decide) ⟨x, H, I1, ru, ⟨rfl, fun ys hy => by rw [I.list_inj hy hq]; exact hx⟩, st', fun b hb => (hf b hb).1⟩⟩
  done := by
    intro X hP hw hK hc i pins s σ H E I hf st hg
    subst hP hw hK
    obtain ⟨xs, hq, hx⟩ := hg
    obtain ⟨its, rv, p, hz⟩ := I.list hq
    obtain ⟨f0, f1, f2, f3, f4, f5⟩ := hf it (by simp)
    have hl := rv.length
    exact wpAny_pyNext_list_end (I.ok.hd hc) st p.isList (by simp; omega) fun h' eb => ⟨rfl, I.turned (t' := s.toks) (fun b o hb e => eb b o hb e) f0 f1 f3 f4 f5⟩
  self := fun _ _ _ _ _ st h => wpAny_pyIter_listiter st h
theorem turn_range {P : Program} {w : World} {K : PySem.W.Frag} {tg : Expr} (it : Addr) (lo : Int) (n : Nat) : Turn P w K tg (Itr lo n) [it] it (fun i h => IsRangeIter h it (lo + (i : Nat) * 1) ((n : Int) - (i : Nat)) 1) where
  mem := by simp
  obj := fun i h st b hb => by
    have e : b = it := by simpa using hb
    subst e
    exact ⟨_, st, fun v z => by
      have z' : Data.fields _ = Data.cell v := z
      cases z'⟩
  keep := fun i h h' st k => k it (by simp) _ st
  item := by
    intro X hP hw hK hc i pins s σ H E I hf st hg
    subst hP hw hK
    obtain ⟨f0, f1, f2, f3, f4, f5⟩ := hf it (by simp)
    have W := Walks.range (prog := X.prog) (w := X.w) (I.ok.hd hc) it lo 1 n
    refine W.item i s _ _ hg st fun v h' tk hv st' kk => ?_
    obtain ⟨t, rfl⟩ := hv
    have I1 : Inv X pins σ H { s with heap := h', toks := tk } := I.turned (fun b o hb e => kk b o (by simpa using hb) e) f0 f1 f3 f4 f5
    refine ⟨_, rfl, go_of (s := { s with heap := h', toks := tk }) (n := "range_iterator") st' rfl rfl (by decide) ⟨.int (lo + i), H, I1, ⟨t, ?_⟩, ⟨rfl, rfl⟩, st', fun b hb => (hf b hb).1⟩⟩
    rw [Int.mul_one]
  done := by
    intro X hP hw hK hc i pins s σ H E I hf st hg
    subst hP hw hK
    obtain ⟨f0, f1, f2, f3, f4, f5⟩ := hf it (by simp)
    exact wpAny_pyNext_range_end (I.ok.hd hc) st (by have : n ≤ i := hg; omega) fun h' eb => ⟨rfl, I.turned (t' := s.toks) (fun b o hb e => eb b o hb e) f0 f1 f3 f4 f5⟩
  self := fun _ _ _ _ _ st h => wpAny_pyIter_rangeiter st h
end L2
namespace L2
open PySem PySem.Spec PyProof.Rows
section
variable {X : Cx} {tg : Expr}
def iList (K : PySem.W.Frag) (tl : TE) : TI := fun σ H R => tl σ H fun x H1 => ∃ a, x = .ref a ∧ (∃ xs, SqL K H1 a xs) ∧ R (Itl K a) H1
def iTup (K : PySem.W.Frag) (tl : TE) : TI := fun σ H R => tl σ H fun x H1 => ∃ a, x = .ref a ∧ (∃ xs, SqT K H1 a xs) ∧ R (Itt K a) H1
theorem pi_list {l : Expr} {tl : TE} (hl : PE X l tl) : PI X tg l (iList X.K tl) := by
  intro pins s σ H R I h
  refine thn (hl pins s σ H _ I h) fun v s1 ⟨x, H1, I1, r1, q1⟩ => ?_
  obtain ⟨a, e, ⟨xs, hq⟩, q⟩ := q1
  subst e
  cases r1
  obtain ⟨its, rv, p, hz⟩ := I1.list hq
  refine wpAny_pyIter_list p.isList ?_
  refine ⟨s1.heap.objs.size, [s1.heap.objs.size], _, _, H1, rfl, I1.kept (t' := s1.toks) fun b o e => Heap.get?_push_of_some _ e, turn_list a _, ⟨_, Heap.get?_push_size _ rfl, rfl, rfl⟩, fun b hb => ?_, q⟩
  have e : b = s1.heap.objs.size := by simpa using hb
  subst e
  exact I1.fpOk (Nat.le_refl _) (I1.hok.fresh (Nat.le_refl _))
theorem range_it {pins : List (Addr × Obj)} {σ : St} {H : Hp} {s : Shared} {R : It → Hp → Prop} {E : Value → Shared → Prop} {lo hi : Int} {t u v : Tok} {tk : Nat} (I : Inv X pins σ H s) (h1 : -(2 ^ 62) ≤ lo) (h2 : lo < 2 ^ 62) (h3 : -(2 ^ 62) ≤ hi) (h4 : hi < 2 ^ 62)
    (q : R (Itr lo (hi - lo).toNat) H) : wpAny (model X.prog X.w) X.A (pyIter (.ref s.heap.objs.size)) (PIE X pins σ tg R) E { s with heap := s.heap.push { cls := .type "range", data := .fields #[.int lo t, .int hi u, .int 1 v] }, toks := tk } := by
  refine wpAny_pyIter_range (IsRange.new ..) (small_one h1 h2 h3 h4) ?_
  have I1 : Inv X pins σ H { s with heap := s.heap.push { cls := .type "range", data := .fields #[.int lo t, .int hi u, .int 1 v] }, toks := tk } := I.kept fun b o e => Heap.get?_push_of_some _ e
  refine ⟨(s.heap.push { cls := .type "range", data := .fields #[.int lo t, .int hi u, .int 1 v] }).objs.size, [(s.heap.push { cls := .type "range", data := .fields #[.int lo t, .int hi u, .int 1 v] }).objs.size], _, _, H, rfl,
    I1.kept (t' := tk) fun b o e => Heap.get?_push_of_some _ e, turn_range _ lo (hi - lo).toNat, ?_, fun b hb => ?_, q⟩
  · have e1 : lo + ((0 : Nat) : Int) * 1 = lo := by simp
    have e2 : (((hi - lo).toNat : Nat) : Int) - ((0 : Nat) : Int) = Builtin.Range.rangeSize lo hi 1 := by rw [rangeSize_one]; split <;> omega
    show IsRangeIter _ _ (lo + ((0 : Nat) : Int) * 1) ((((hi - lo).toNat : Nat) : Int) - ((0 : Nat) : Int)) 1
    rw [e1, e2]
    exact Heap.get?_push_size _ rfl
  · have e : b = (s.heap.push { cls := .type "range", data := .fields #[.int lo t, .int hi u, .int 1 v] }).objs.size := by simpa using hb
    subst e
    exact I1.fpOk (Nat.le_refl _) (I1.hok.fresh (Nat.le_refl _))
def iRng1 (ta : TA) : TI := fun σ H R => ta σ H fun vs H1 => ∃ j : Int, vs = [.int j] ∧ -(2 ^ 62) ≤ j ∧ j < 2 ^ 62 ∧ R (Itr 0 j.toNat) H1
def iRng2 (ta : TA) : TI := fun σ H R => ta σ H fun vs H1 => ∃ i j : Int, vs = [.int i, .int j] ∧ (-(2 ^ 62) ≤ i ∧ i < 2 ^ 62 ∧ -(2 ^ 62) ≤ j ∧ j < 2 ^ 62) ∧ R (Itr i (j - i).toNat) H1
theorem pi_range1 {a : Expr} {ta : TA} {p pos : Pos} (hg : Gl X "range") (hm : X.mg "range" = none) (ha : PA X [a] ta) (hs : starEach [a] X.env = [(false, eval a X.env)] := by rfl) : PI X tg (.Call (.Name "range" p) [a] [] pos) (iRng1 ta) := by
  intro pins s σ H R I h
  refine Call_ (ld_blt I hg hm boot_range (PyProof.Rows.callWith_type1 (thn (ha pos pins s σ H _ I h) fun us s1 ⟨vs, H1, I1, r1, q1⟩ => ?_) hs rfl))
  obtain ⟨j, e, q1, q2, q⟩ := q1
  subst e
  cases r1 with
  | cons r rr =>
    cases rr
    obtain ⟨t, rfl⟩ := r
    exact call_range_1 (range_it I1 (by omega) (by omega) q1 q2 (by simpa using q))
theorem pi_range2 {a b : Expr} {ta : TA} {p pos : Pos} (hg : Gl X "range") (hm : X.mg "range" = none) (ha : PA X [a, b] ta) (hs : starEach [a, b] X.env = [(false, eval a X.env), (false, eval b X.env)] := by rfl) (hs2 : starEach [b] X.env = [(false, eval b X.env)] := by rfl) :
    PI X tg (.Call (.Name "range" p) [a, b] [] pos) (iRng2 ta) := by
  intro pins s σ H R I h
  refine Call_ (ld_blt I hg hm boot_range (PyProof.Rows.callWith_type1 (thn (ha pos pins s σ H _ I h) fun us s1 ⟨vs, H1, I1, r1, q1⟩ => ?_) (by rw [hs, hs2]) (by rw [hs2]; rfl)))
  obtain ⟨i, j, e, ⟨q1, q2, q3, q4⟩, q⟩ := q1
  subst e
  cases r1 with
  | cons r rr =>
    cases rr with
    | cons r' rr =>
      cases rr
      obtain ⟨t, rfl⟩ := r
      obtain ⟨t', rfl⟩ := r'
      exact call_range_2 (range_it I1 q1 q2 q3 q4 q)
def tFor (wi : TI) (g : TG) (tb : TS) : TS := fun D σ H => wi σ H fun J H1 => ∃ W : Nat → Nat → St → Hp → Prop, (∃ m, W 0 m σ H1) ∧ ∀ i m σ H, W i m σ H →
  (J.stop i H ∧ D.nx σ H) ∨ (J.go i H ∧ ∃ N : St → Hp → Prop, (∀ σ' H', N σ' H' → ∃ m', m' < m ∧ W (i + 1) m' σ' H') ∧ ∀ x H', J.yld i H x H' → g x σ H' fun σ2 H2 => tb { D with nx := N, ct := N, bk := D.nx } σ2 H2)
def pinsAt (fp : List Addr) (h : Heap) : List (Addr × Obj) := fp.filterMap fun b => (h.get? b).map fun o => (b, o)
theorem mem_pinsAt {fp : List Addr} {h : Heap} {b : Addr} {o : Obj} (hb : b ∈ fp) (e : h.get? b = some o) : (b, o) ∈ pinsAt fp h := List.mem_filterMap.mpr ⟨b, hb, by rw [e]; rfl⟩
theorem of_pinsAt {fp : List Addr} {h : Heap} {p : Addr × Obj} (hp : p ∈ pinsAt fp h) : p.1 ∈ fp ∧ h.get? p.1 = some p.2 := by
  obtain ⟨b, hb, e⟩ := List.mem_filterMap.mp hp
  cases q : h.get? b with
  | none => rw [q] at e; cases e
  | some o =>
    rw [q] at e
    have e' : (b, o) = p := Option.some.inj e
    subst e'
    exact ⟨hb, q⟩
theorem Inv.pinned {pins : List (Addr × Obj)} {σ : St} {H : Hp} {s : Shared} {fp : List Addr} (I : Inv X pins σ H s) (hf : ∀ b ∈ fp, FpOk X pins H b) (ho : ∀ b ∈ fp, ∃ o, s.heap.get? b = some o ∧ ∀ v, o.data ≠ .cell v) : Inv X (pins ++ pinsAt fp s.heap) σ H s :=
  I.pins_of fun p hp => (List.mem_append.mp hp).elim (fun z => I.pin p (List.mem_append_right _ z)) fun z => by
    obtain ⟨hb, e⟩ := of_pinsAt z
    obtain ⟨f0, f1, f2, _⟩ := hf p.1 hb
    obtain ⟨o, e', d⟩ := ho p.1 hb
    rw [e] at e'; cases e'
    exact ⟨e, f0, f1, f2, d⟩
theorem Inv.unpinned {pins pl : List (Addr × Obj)} {σ : St} {H : Hp} {s : Shared} (I : Inv X (pins ++ pl) σ H s) : Inv X pins σ H s := I.pins_of fun p hp => I.pin p (List.mem_append_right _ (List.mem_append_left _ hp))
theorem ps_for {iter : Expr} {body : List Stmt} {wi : TI} {g : TG} {tb : TS} {pos : Pos} (hp : PassesOwn (model X.prog X.w) X.A X.env X.xe) (hc : X.calm = true) (hi : PI X tg iter wi) (hg : PG X tg g) (hb : PSs X body tb)
    (hs : ∀ x, foldedSetIterable iter X.env x = pure x := by intro _; rfl) : PS X (.For tg iter body [] pos) (tFor wi g tb) := by
  intro pins s σ H D I h
  refine wpAny_For (thn (hi pins s σ H _ I h) fun v s1 h1 => thn h1 fun itv s2 h2 => ?_) hs
  obtain ⟨it, fp, tn, J, H2, e, I2, T, st2, f2, W, ⟨m0, w0⟩, turn⟩ := h2
  subst e
  -- what stays true of the iterator's objects through the loop
  have stat : ∀ {H' : Hp}, (∀ b ∈ fp, H' b = none) → ∀ b ∈ fp, FpOk X pins H' b := fun hn b hb => ⟨hn b hb, (f2 b hb).2⟩
  refine codeAny_forLoop_any (fun n s' => ∃ i σ' H', Inv X pins σ' H' s' ∧ tn i s'.heap ∧ (∀ b ∈ fp, H' b = none) ∧ W i n σ' H') ?_ m0 ⟨0, σ, H2, I2, st2, fun b hb => (f2 b hb).1, w0⟩
  rintro n s3 ⟨i, σ3, H3, I3, st3, fr3, w3⟩
  rcases turn i n σ3 H3 w3 with ⟨stop, qn⟩ | ⟨go, N, hN, step⟩
  · refine wpAny_passesOwn hp (thn (T.done X rfl rfl rfl hc i pins s3 σ3 H3 X.xe I3 (stat fr3) st3 stop) fun r s4 ⟨hr, I4⟩ => ?_)
    subst hr
    exact wpAny_execs_nil ⟨σ3, H3, I4, qn⟩
  · refine wpAny_passesOwn hp (thn (T.item X rfl rfl rfl hc i pins s3 σ3 H3 X.xe I3 (stat fr3) st3 go) fun r s4 ⟨u, hr, h4⟩ => ?_)
    subst hr
    refine wpAny_passesOwn hp (thn h4 fun _ s5 ⟨x, H5, I5, r5, y5, st5, fr5⟩ => ?_)
    have I5' := I5.pinned (stat fr5) (T.obj _ _ st5)
    refine wpAny_passesOwn hp (thn (hg _ s5 σ3 H5 x u _ I5' r5 (step x H5 y5)) fun _ s6 ⟨σ6, H6, I6, q6⟩ => ?_)
    refine wpAny_passesOwn hp (thn (hb _ s6 σ6 H6 _ I6 q6) fun f s7 q7 => ?_)
    have again : ∀ {σ7 : St} {H7 : Hp}, Inv X (pins ++ pinsAt fp s5.heap) σ7 H7 s7 → N σ7 H7 → ∃ m, m < n ∧ ∃ i σ' H', Inv X pins σ' H' s7 ∧ tn i s7.heap ∧ (∀ b ∈ fp, H' b = none) ∧ W i m σ' H' := fun {σ7 H7} I7 n7 => by
      obtain ⟨m', hm, w7⟩ := hN σ7 H7 n7
      refine ⟨m', hm, i + 1, σ7, H7, I7.unpinned, T.keep _ _ _ st5 fun b hb o e => (I7.pin (b, o) (List.mem_append_right _ (List.mem_append_right _ (mem_pinsAt hb e)))).1, fun b hb => ?_, w7⟩
      obtain ⟨o, e, d⟩ := T.obj _ _ st5 b hb
      exact (I7.pin (b, o) (List.mem_append_right _ (List.mem_append_right _ (mem_pinsAt hb e)))).2.1
    cases f with
    | next => obtain ⟨σ7, H7, I7, n7⟩ := q7; exact again I7 n7
    | cont => obtain ⟨σ7, H7, I7, n7⟩ := q7; exact again I7 n7
    | brk => obtain ⟨σ7, H7, I7, q7⟩ := q7; exact ⟨σ7, H7, I7.unpinned, q7⟩
    | ret v => obtain ⟨x7, σ7, H7, I7, r7, q7⟩ := q7; exact ⟨x7, σ7, H7, I7.unpinned, r7, q7⟩
end
theorem for_list {K : PySem.W.Frag} {a : Addr} {xs : List V} {g : TG} {tb : TS} {D : Ends} {σ : St} {H : Hp} (Pv : Nat → St → Hp → Prop) (h0 : Pv 0 σ H) (hl : ∀ i σ H, i ≤ xs.length → Pv i σ H → SqL K H a xs)
    (hs : ∀ i x σ H, xs[i]? = some x → Pv i σ H → g x σ H fun σ2 H2 => tb { D with nx := Pv (i + 1), ct := Pv (i + 1), bk := D.nx } σ2 H2) (hd : ∀ σ H, Pv xs.length σ H → D.nx σ H) :
    ∃ W : Nat → Nat → St → Hp → Prop, (∃ m, W 0 m σ H) ∧ ∀ i m σ H, W i m σ H →
      ((Itl K a).stop i H ∧ D.nx σ H) ∨ ((Itl K a).go i H ∧ ∃ N : St → Hp → Prop, (∀ σ' H', N σ' H' → ∃ m', m' < m ∧ W (i + 1) m' σ' H') ∧ ∀ x H', (Itl K a).yld i H x H' → g x σ H' fun σ2 H2 => tb { D with nx := N, ct := N, bk := D.nx } σ2 H2) := by
  refine ⟨fun i m σ H => m = xs.length - i ∧ i ≤ xs.length ∧ Pv i σ H, ⟨xs.length, by simp, Nat.zero_le _, h0⟩, ?_⟩
  rintro i m σ H ⟨rfl, hi, p⟩
  have q := hl i σ H hi p
  by_cases hlt : i < xs.length
  · refine .inr ⟨⟨xs, xs[i], q, by simp [hlt]⟩, Pv (i + 1), fun σ' H' p' => ⟨xs.length - (i + 1), by omega, rfl, hlt, p'⟩, fun x H' y => ?_⟩
    obtain ⟨e, y⟩ := y
    subst e
    exact hs i x σ _ (y xs q) p
  · have e : i = xs.length := by omega
    subst e
    exact .inl ⟨⟨xs, q, Nat.le_refl _⟩, hd σ H p⟩
theorem for_range {lo : Int} {n : Nat} {g : TG} {tb : TS} {D : Ends} {σ : St} {H : Hp} (Pv : Nat → St → Hp → Prop) (h0 : Pv 0 σ H)
    (hs : ∀ i σ H, i < n → Pv i σ H → g (.int (lo + i)) σ H fun σ2 H2 => tb { D with nx := Pv (i + 1), ct := Pv (i + 1), bk := D.nx } σ2 H2) (hd : ∀ σ H, Pv n σ H → D.nx σ H) :
    ∃ W : Nat → Nat → St → Hp → Prop, (∃ m, W 0 m σ H) ∧ ∀ i m σ H, W i m σ H →
      ((Itr lo n).stop i H ∧ D.nx σ H) ∨ ((Itr lo n).go i H ∧ ∃ N : St → Hp → Prop, (∀ σ' H', N σ' H' → ∃ m', m' < m ∧ W (i + 1) m' σ' H') ∧ ∀ x H', (Itr lo n).yld i H x H' → g x σ H' fun σ2 H2 => tb { D with nx := N, ct := N, bk := D.nx } σ2 H2) := by
  refine ⟨fun i m σ H => m = n - i ∧ i ≤ n ∧ Pv i σ H, ⟨n, by simp, Nat.zero_le _, h0⟩, ?_⟩
  rintro i m σ H ⟨rfl, hi, p⟩
  by_cases hlt : i < n
  · refine .inr ⟨hlt, Pv (i + 1), fun σ' H' p' => ⟨n - (i + 1), by omega, rfl, hlt, p'⟩, fun x H' y => ?_⟩
    obtain ⟨e, y⟩ := y
    subst e y
    exact hs i σ _ hlt p
  · have e : i = n := by omega
    subst e
    exact .inl ⟨Nat.le_refl _, hd σ H p⟩
end L2
namespace L2
open PySem PySem.Spec PyProof.Rows
abbrev R2 := V → V → Hp → VK → Prop
def OpR (X : Cx) (f : Value → Value → Sem Value) (r : R2) : Prop :=
  ∀ (pins : List (Addr × Obj)) (s : Shared) (σ : St) (H : Hp) (x y : V) (v u : Value) (Q : VK), Inv X pins σ H s → RelV x v → RelV y u → r x y H Q →
    wpAny (model X.prog X.w) X.A (f v u) (EP X pins σ Q) X.xe s
def UnR (X : Cx) (f : Value → Sem Value) (r : V → Hp → VK → Prop) : Prop :=
  ∀ (pins : List (Addr × Obj)) (s : Shared) (σ : St) (H : Hp) (x : V) (v : Value) (Q : VK), Inv X pins σ H s → RelV x v → r x H Q →
    wpAny (model X.prog X.w) X.A (f v) (EP X pins σ Q) X.xe s
def CallR (X : Cx) (f : Value) (r : List V → Hp → VK → Prop) : Prop :=
  ∀ (pins : List (Addr × Obj)) (s : Shared) (σ : St) (H : Hp) (xs : List V) (us : List Value) (Q : VK), Inv X pins σ H s → Vals xs us → r xs H Q →
    wpAny (model X.prog X.w) X.A (call f us) (EP X pins σ Q) X.xe s
def tOp (r : R2) (ta tb : TE) : TE := fun σ H Q => ta σ H fun x H1 => tb σ H1 fun y H2 => r x y H2 Q
def tUn (r : V → Hp → VK → Prop) (ta : TE) : TE := fun σ H Q => ta σ H fun x H1 => r x H1 Q
def rI (C : Int → Int → Prop) (g : Int → Int → V) : R2 := fun x y H Q => ∃ i j, x = .int i ∧ y = .int j ∧ C i j ∧ Q (g i j) H
def rI0 (g : Int → Int → V) : R2 := fun x y H Q => ∃ i j, x = .int i ∧ y = .int j ∧ Q (g i j) H
def rU (g : Int → V) : V → Hp → VK → Prop := fun x H Q => ∃ i, x = .int i ∧ Q (g i) H
section
variable {X : Cx} {a b c : Expr} {ta tb tc : TE} {pos : Pos}
theorem binT (ha : PE X a ta) (hb : PE X b tb) {pins : List (Addr × Obj)} {s : Shared} {σ : St} {H : Hp} {R : V → V → Hp → Prop} (I : Inv X pins σ H s)
    (h : ta σ H fun x H1 => tb σ H1 fun y H2 => R x y H2) {Q : Value → Shared → Prop} {f : Value → Value → Sem Value}
    (hf : ∀ v u s2 x y H2, Inv X pins σ H2 s2 → RelV x v → RelV y u → R x y H2 → wpAny (model X.prog X.w) X.A (f v u) Q X.xe s2) :
    wpAny (model X.prog X.w) X.A (eval a X.env) (fun v s₁ => wpAny (model X.prog X.w) X.A (eval b X.env) (fun u s₂ => wpAny (model X.prog X.w) X.A (f v u) Q X.xe s₂) X.xe s₁) X.xe s := by
  refine thn (ha pins s σ H _ I h) fun v s1 ⟨x, H1, I1, r1, q1⟩ => ?_
  refine thn (hb pins s1 σ H1 _ I1 q1) fun u s2 ⟨y, H2, I2, r2, q2⟩ => ?_
  exact hf v u s2 x y H2 I2 r1 r2 q2
theorem pe_op {op : Operator} {r : R2} (ho : OpR X (binaryOp op) r) (ha : PE X a ta) (hb : PE X b tb) : PE X (.BinOp a op b pos) (tOp r ta tb) := by
  intro pins s σ H Q I h
  exact wpAny_BinOp (binT ha hb I h fun v u s2 x y H2 I2 rx ry q => ho pins s2 σ H2 x y v u Q I2 rx ry q)
theorem pe_un {op : UnaryOp} {r : V → Hp → VK → Prop} (ho : UnR X (unaryOp op) r) (ha : PE X a ta) : PE X (.UnaryOp op a pos) (tUn r ta) := by
  intro pins s σ H Q I h
  exact UnaryOp_ (thn (ha pins s σ H _ I h) fun v s1 ⟨x, H1, I1, r1, q1⟩ => ho pins s1 σ H1 x v Q I1 r1 q1)
theorem opI {f : Value → Value → Sem Value} {C : Int → Int → Prop} {g : Int → Int → Int}
    (rule : ∀ (i j : Int) (t u : Tok) (s : Shared) (Q : Value → Shared → Prop) (E : Value → Shared → Prop), C i j → Q (.int (g i j) s.toks) { s with toks := s.toks + 1 } → wpAny (model X.prog X.w) X.A (f (.int i t) (.int j u)) Q E s) :
    OpR X f (rI C fun i j => .int (g i j)) := by
  intro pins s σ H x y v u Q I rx ry h
  obtain ⟨i, j, rfl, rfl, hc, q⟩ := h
  obtain ⟨t, rfl⟩ := rx
  obtain ⟨t', rfl⟩ := ry
  exact rule i j t t' s _ _ hc ⟨.int (g i j), H, I.tok _, ⟨_, rfl⟩, q⟩
theorem opI0 {f : Value → Value → Sem Value} {g : Int → Int → Int}
    (rule : ∀ (i j : Int) (t u : Tok) (s : Shared) (Q : Value → Shared → Prop) (E : Value → Shared → Prop), Q (.int (g i j) s.toks) { s with toks := s.toks + 1 } → wpAny (model X.prog X.w) X.A (f (.int i t) (.int j u)) Q E s) :
    OpR X f (rI0 fun i j => .int (g i j)) := by
  intro pins s σ H x y v u Q I rx ry h
  obtain ⟨i, j, rfl, rfl, q⟩ := h
  obtain ⟨t, rfl⟩ := rx
  obtain ⟨t', rfl⟩ := ry
  exact rule i j t t' s _ _ ⟨.int (g i j), H, I.tok _, ⟨_, rfl⟩, q⟩
theorem opB0 {f : Value → Value → Sem Value} {g : Int → Int → Bool}
    (rule : ∀ (i j : Int) (t u : Tok) (s : Shared) (Q : Value → Shared → Prop) (E : Value → Shared → Prop), Q (.bool (g i j)) s → wpAny (model X.prog X.w) X.A (f (.int i t) (.int j u)) Q E s) :
    OpR X f (rI0 fun i j => .bl (g i j)) := by
  intro pins s σ H x y v u Q I rx ry h
  obtain ⟨i, j, rfl, rfl, q⟩ := h
  obtain ⟨t, rfl⟩ := rx
  obtain ⟨t', rfl⟩ := ry
  exact rule i j t t' s _ _ ⟨.bl (g i j), H, I, rfl, q⟩
def CPow (i j : Int) : Prop := 0 ≤ j ∧ j ≤ 1000000 ∧ i.natAbs < 2 ^ 64
def CMul (i j : Int) : Prop := (-(2 ^ 64) < i ∧ i < 2 ^ 64) ∨ (-(2 ^ 64) < j ∧ j < 2 ^ 64)
theorem CMul.ok {i j : Int} (h : CMul i j) : IntMulOk i j := by
  rcases h with ⟨h1, h2⟩ | ⟨h1, h2⟩
  · exact .of_left (intBits_le_64 h1 h2)
  · exact .of_right (intBits_le_64 h1 h2)
theorem two_pow_nn (k : Nat) : (0 : Int) ≤ 2 ^ k := by
  rw [two_pow_cast]
  exact Int.natCast_nonneg _
theorem op_add : OpR X (binaryOp .Add) (rI0 fun i j => .int (i + j)) := opI0 fun _ _ _ _ _ _ _ q => add_int q
theorem op_sub : OpR X (binaryOp .Sub) (rI0 fun i j => .int (i - j)) := opI0 fun _ _ _ _ _ _ _ q => sub_int q
theorem op_mul : OpR X (binaryOp .Mult) (rI CMul fun i j => .int (i * j)) := opI fun _ _ _ _ _ _ _ hc q => mul_int q hc.ok
theorem op_mod : OpR X (binaryOp .Mod) (rI (fun _ j => 0 < j) fun i j => .int (i % j)) := opI fun i j _ _ _ _ _ hc q => by
  have h1 : (0 : Int) < j := hc
  exact mod_int' (by omega) (by rw [Int.fmod_eq_emod_of_nonneg i (by omega)]; exact q)
theorem op_shl : OpR X (binaryOp .LShift) (rI CPow fun i j => .int (i * 2 ^ j.toNat)) := opI fun _ _ _ _ _ _ _ hc q => lshift_int_small hc.1 hc.2.1 hc.2.2 q
theorem op_shr : OpR X (binaryOp .RShift) (rI (fun _ j => 0 ≤ j) fun i j => .int (i / 2 ^ j.toNat)) := opI fun i j _ _ _ _ _ hc q =>
  rshift_int hc (by rw [Int.fdiv_eq_ediv_of_nonneg i (two_pow_nn _)]; exact q)
theorem op_and : OpR X (binaryOp .BitAnd) (rI0 fun i j => .int (Builtin.bitAnd i j)) := opI0 fun _ _ _ _ _ _ _ q => and_int q
theorem op_or : OpR X (binaryOp .BitOr) (rI0 fun i j => .int (Builtin.bitOr i j)) := opI0 fun _ _ _ _ _ _ _ q => or_int q
theorem unI {f : Value → Sem Value} {g : Int → Int}
    (rule : ∀ (i : Int) (t : Tok) (s : Shared) (Q : Value → Shared → Prop) (E : Value → Shared → Prop), Q (.int (g i) s.toks) { s with toks := s.toks + 1 } → wpAny (model X.prog X.w) X.A (f (.int i t)) Q E s) :
    UnR X f (rU fun i => .int (g i)) := by
  intro pins s σ H x v Q I rx h
  obtain ⟨i, rfl, q⟩ := h
  obtain ⟨t, rfl⟩ := rx
  exact rule i t s _ _ ⟨.int (g i), H, I.tok _, ⟨_, rfl⟩, q⟩
theorem un_neg : UnR X (unaryOp .USub) (rU fun i => .int (-i)) := unI fun _ _ _ _ _ q => neg_int q
end
def scal : V → V → Bool
  | .non, .non => true | .non, .int _ => true | .int _, .non => true | .non, .bl _ => true | .bl _, .non => true | .non, .str _ => true | .str _, .non => true
  | .int _, .int _ => true | .bl _, .bl _ => true | .str _, .str _ => true | .byt _, .byt _ => true
  | .int _, .str _ => true | .str _, .int _ => true | .bl _, .str _ => true | .str _, .bl _ => true
  | _, _ => false
def rEq : R2 := fun x y H Q => scal x y = true ∧ Q (.bl (decide (x = y))) H
def rNe : R2 := fun x y H Q => scal x y = true ∧ Q (.bl (!decide (x = y))) H
theorem dec_int {i j : Int} : decide (V.int i = V.int j) = (i == j) := by
  rw [Bool.eq_iff_iff]
  simp
theorem dec_bl {i j : Bool} : decide (V.bl i = V.bl j) = (i == j) := by
  rw [Bool.eq_iff_iff]
  simp
theorem dec_str {i j : Str} : decide (V.str i = V.str j) = (i == j) := by
  rw [Bool.eq_iff_iff]
  simp
theorem dec_byt {i j : Array UInt8} : decide (V.byt i = V.byt j) = (i.toList == j.toList) := by
  rw [Bool.eq_iff_iff]
  cases i
  cases j
  simp
section
variable {X : Cx} {a b c : Expr} {ta tb tc : TE} {pos : Pos}
theorem fin_bl {pins : List (Addr × Obj)} {σ : St} {H : Hp} {s : Shared} {Q : VK} {k k' : Bool} (I : Inv X pins σ H s) (q : Q (.bl k) H) (e : k = k') : EP X pins σ Q (.bool k') s := by
  subst e
  exact ⟨.bl k, H, I, rfl, q⟩
theorem op_eq : OpR X (compareOp .Eq) rEq := by
  intro pins s σ H x y v u Q I rx ry h
  obtain ⟨hs, q⟩ := h
  cases x with
  | non =>
    cases rx
    cases y with
    | non => cases ry; exact PySem.EqNone.eq_none_none (fin_bl I q (by simp))
    | bl j => cases ry; exact PySem.EqNone.eq_none_bool (fin_bl I q (by simp))
    | int j => obtain ⟨t', rfl⟩ := ry; exact PySem.EqNone.eq_none_int (fin_bl I q (by simp))
    | str j => obtain ⟨t', rfl⟩ := ry; exact PySem.EqNone.eq_none_str (fin_bl I q (by simp))
    | _ => exact absurd (show false = true from hs) Bool.false_ne_true
  | bl i =>
    cases rx
    cases y with
    | non => cases ry; exact PySem.EqNone.eq_bool_none (fin_bl I q (by simp))
    | bl j => cases ry; exact eq_bool (fin_bl I q dec_bl)
    | str j => obtain ⟨t', rfl⟩ := ry; exact PySem.EqMixed.eq_bool_str (fin_bl I q (by simp))
    | _ => exact absurd (show false = true from hs) Bool.false_ne_true
  | int i =>
    obtain ⟨t, rfl⟩ := rx
    cases y with
    | non => cases ry; exact PySem.EqNone.eq_int_none (fin_bl I q (by simp))
    | int j => obtain ⟨t', rfl⟩ := ry; exact eq_int (fin_bl I q dec_int)
    | str j => obtain ⟨t', rfl⟩ := ry; exact PySem.EqMixed.eq_int_str (fin_bl I q (by simp))
    | _ => exact absurd (show false = true from hs) Bool.false_ne_true
  | str i =>
    obtain ⟨t, rfl⟩ := rx
    cases y with
    | non => cases ry; exact PySem.EqNone.eq_str_none (fin_bl I q (by simp))
    | bl j => cases ry; exact PySem.EqMixed.eq_str_bool (fin_bl I q (by simp))
    | int j => obtain ⟨t', rfl⟩ := ry; exact PySem.EqMixed.eq_str_int (fin_bl I q (by simp))
    | str j => obtain ⟨t', rfl⟩ := ry; exact eq_str (fin_bl I q dec_str)
    | _ => exact absurd (show false = true from hs) Bool.false_ne_true
  | byt i =>
    obtain ⟨t, rfl⟩ := rx
    cases y with
    | byt j => obtain ⟨t', rfl⟩ := ry; exact PySem.W.eq_bytes (fin_bl I q dec_byt)
    | _ => exact absurd (show false = true from hs) Bool.false_ne_true
  | _ => cases y <;> exact absurd (show false = true from hs) Bool.false_ne_true
theorem op_ne : OpR X (compareOp .NotEq) rNe := by
  intro pins s σ H x y v u Q I rx ry h
  obtain ⟨hs, q⟩ := h
  cases x with
  | non =>
    cases rx
    cases y with
    | non => cases ry; exact PySem.EqNone.ne_none_none (fin_bl I q (by simp))
    | bl j => cases ry; exact PySem.EqNone.ne_none_bool (fin_bl I q (by simp))
    | int j => obtain ⟨t', rfl⟩ := ry; exact PySem.EqNone.ne_none_int (fin_bl I q (by simp))
    | str j => obtain ⟨t', rfl⟩ := ry; exact PySem.EqNone.ne_none_str (fin_bl I q (by simp))
    | _ => exact absurd (show false = true from hs) Bool.false_ne_true
  | bl i =>
    cases rx
    cases y with
    | non => cases ry; exact PySem.EqNone.ne_bool_none (fin_bl I q (by simp))
    | bl j => cases ry; exact ne_bool (fin_bl I q (congrArg not dec_bl))
    | str j => obtain ⟨t', rfl⟩ := ry; exact PySem.EqMixed.ne_bool_str (fin_bl I q (by simp))
    | _ => exact absurd (show false = true from hs) Bool.false_ne_true
  | int i =>
    obtain ⟨t, rfl⟩ := rx
    cases y with
    | non => cases ry; exact PySem.EqNone.ne_int_none (fin_bl I q (by simp))
    | int j => obtain ⟨t', rfl⟩ := ry; exact ne_int (fin_bl I q (congrArg not dec_int))
    | str j => obtain ⟨t', rfl⟩ := ry; exact PySem.EqMixed.ne_int_str (fin_bl I q (by simp))
    | _ => exact absurd (show false = true from hs) Bool.false_ne_true
  | str i =>
    obtain ⟨t, rfl⟩ := rx
    cases y with
    | non => cases ry; exact PySem.EqNone.ne_str_none (fin_bl I q (by simp))
    | bl j => cases ry; exact PySem.EqMixed.ne_str_bool (fin_bl I q (by simp))
    | int j => obtain ⟨t', rfl⟩ := ry; exact PySem.EqMixed.ne_str_int (fin_bl I q (by simp))
    | str j => obtain ⟨t', rfl⟩ := ry; exact ne_str (fin_bl I q (congrArg not dec_str))
    | _ => exact absurd (show false = true from hs) Bool.false_ne_true
  | byt i =>
    obtain ⟨t, rfl⟩ := rx
    cases y with
    | byt j => obtain ⟨t', rfl⟩ := ry; exact PySem.W.ne_bytes (fin_bl I q (congrArg not dec_byt))
    | _ => exact absurd (show false = true from hs) Bool.false_ne_true
  | _ => cases y <;> exact absurd (show false = true from hs) Bool.false_ne_true
theorem op_lt : OpR X (compareOp .Lt) (rI0 fun i j => .bl (decide (i < j))) := opB0 fun _ _ _ _ _ _ _ q => lt_int q
theorem op_le : OpR X (compareOp .LtE) (rI0 fun i j => .bl (decide (i ≤ j))) := opB0 fun _ _ _ _ _ _ _ q => le_int q
theorem op_gt : OpR X (compareOp .Gt) (rI0 fun i j => .bl (decide (j < i))) := opB0 fun _ _ _ _ _ _ _ q => gt_int q
theorem OpR.or {f : Value → Value → Sem Value} {r r' : R2} (h : OpR X f r) (h' : OpR X f r') : OpR X f (fun x y H Q => r x y H Q ∨ r' x y H Q) := by
  intro pins s σ H x y v u Q I rx ry q
  rcases q with q | q
  · exact h pins s σ H x y v u Q I rx ry q
  · exact h' pins s σ H x y v u Q I rx ry q
theorem nomark (b : Expr) {op : CmpOp} (h : op ≠ .In := by decide) (h2 : op ≠ .NotIn := by decide) : behindInMarks op b = false := by
  have e1 : (op == CmpOp.In) = false := by cases op <;> first | rfl | exact absurd rfl h
  have e2 : (op == CmpOp.NotIn) = false := by cases op <;> first | rfl | exact absurd rfl h2
  cases b <;> simp [behindInMarks, e1, e2]
theorem pe_cmpR {op : CmpOp} {r : R2} (ho : OpR X (compareOp op) r) (ha : PE X a ta) (hb : PE X b tb) (hm : behindInMarks op b = false) : PE X (.Compare a [op] [b] pos) (tOp r ta tb) := by
  intro pins s σ H Q I h
  exact wpAny_Compare1 (binT ha hb I h fun v u s2 x y H2 I2 rx ry q => ho pins s2 σ H2 x y v u Q I2 rx ry q) hm
def tTest (t : TE) : TT := fun σ H Q => t σ H fun x H' => ∃ k, x = .bl k ∧ Q k H'
theorem pt_cmpR {op : CmpOp} {r : R2} (ho : OpR X (compareOp op) r) (ha : PE X a ta) (hb : PE X b tb) (hm : behindInMarks op b = false) : PT X (.Compare a [op] [b] pos) (tTest (tOp r ta tb)) := by
  intro pins s σ H Q I h
  refine wpAny_isTrue_Compare1 (thn (ha pins s σ H _ I h) fun v s1 ⟨x, H1, I1, r1, q1⟩ => thn (hb pins s1 σ H1 _ I1 q1) fun u s2 ⟨y, H2, I2, r2, q2⟩ =>
    thn (ho pins s2 σ H2 x y v u _ I2 r1 r2 q2) fun c s3 ⟨z, H3, I3, r3, k, e, q3⟩ => ?_) hm
  subst e
  cases r3
  exact wpAny_truthy_bool ⟨H3, I3, q3⟩
def tChain (r r' : R2) (ta tb tc : TE) : TE := fun σ H Q => ta σ H fun x H1 => tb σ H1 fun y H2 => r x y H2 fun z H3 => ∃ k, z = .bl k ∧
  (if k = true then tc σ H3 fun w' H4 => r' y w' H4 Q else Q (.bl false) H3)
theorem pe_chain {op op' : CmpOp} {r r' : R2} (ho : OpR X (compareOp op) r) (ho' : OpR X (compareOp op') r') (ha : PE X a ta) (hb : PE X b tb) (hc : PE X c tc)
    (hm : lastMarks [op, op'] [b, c] = false := by with_unfolding_all rfl) : PE X (.Compare a [op, op'] [b, c] pos) (tChain r r' ta tb tc) := by
  intro pins s σ H Q I h
  refine Compare_chain (thn (ha pins s σ H _ I h) fun v s1 ⟨x, H1, I1, r1, q1⟩ => chain_link (thn (hb pins s1 σ H1 _ I1 q1) fun u s2 ⟨y, H2, I2, r2, q2⟩ =>
    thn (ho pins s2 σ H2 x y v u _ I2 r1 r2 q2) fun d s3 ⟨z, H3, I3, r3, k, e, q3⟩ => ?_)) hm
  subst e
  cases r3
  refine wpAny_truthy_bool ?_
  cases k with
  | false => exact ite_ff ⟨.bl false, H3, I3, rfl, q3⟩
  | true => exact ite_tt (chain_last (thn (hc pins s3 σ H3 _ I3 q3) fun w' s4 ⟨z', H4, I4, r4, q4⟩ => ho' pins s4 σ H4 y z' u w' Q I4 r2 r4 q4))
theorem line63 : (sizeLine : Nat) < 2 ^ 63 := by rw [sizeLine_eq]; decide
theorem op_add_str : OpR X (binaryOp .Add) (fun x y H Q => ∃ i j, x = .str i ∧ y = .str j ∧ i.length + j.length ≤ sizeLine ∧ Q (.str (i ++ j)) H) := by
  intro pins s σ H x y v u Q I rx ry h
  obtain ⟨i, j, rfl, rfl, hz, q⟩ := h
  obtain ⟨t, rfl⟩ := rx
  obtain ⟨t', rfl⟩ := ry
  exact add_str (fun t' tk => ⟨.str (i ++ j), H, I.tok _, ⟨_, rfl⟩, q⟩) hz
def PlainIxT (b : Expr) : Prop := ∀ o i, subscripted b false o i = operate [o, i] (getItem o i)
theorem pe_item_str (ha : PE X a ta) (hb : PE X b tb) (hs : PlainIxT b) :
    PE X (.Subscript a b pos) (tOp (fun x y H Q => ∃ z i c, x = .str z ∧ y = .int i ∧ 0 ≤ i ∧ i < 2 ^ 63 ∧ i < z.length ∧ z.cps[i.toNat]? = some c ∧ Q (.str ⟨#[c]⟩) H) ta tb) := by
  intro pins s σ H Q I h
  refine Subscript_ (binT ha hb I h fun v u s2 x y H2 I2 rx ry q => ?_)
  obtain ⟨z, i, c, rfl, rfl, h0, h63, h1, hc, q⟩ := q
  obtain ⟨t, rfl⟩ := rx
  obtain ⟨t', rfl⟩ := ry
  have e : seqIndex? i z.length = some i.toNat := PySem.StrLaws.seqIndex_nonneg h0 h1
  exact tail_any (typeIs_str s2 z t) slot_str_getitem.lookup (getItem_str (c := c) (by
    have e1 : decide (i < -(2 ^ 63 : Int)) = false := decide_eq_false (by omega)
    have e2 : decide (i ≥ 2 ^ 63) = false := decide_eq_false (by omega)
    rw [e1, e2] <;> rfl) (by rw [e]; exact hc) ⟨.str ⟨#[c]⟩, H2, I2.tok _, ⟨_, rfl⟩, q⟩) (hs _ _)
theorem vals1 {x : V} {us : List Value} (r : Vals [x] us) : ∃ u, us = [u] ∧ RelV x u := by
  cases r with
  | cons r1 r2 => cases r2; exact ⟨_, rfl, r1⟩
theorem vals2 {x y : V} {us : List Value} (r : Vals [x, y] us) : ∃ u w', us = [u, w'] ∧ RelV x u ∧ RelV y w' := by
  cases r with
  | cons r1 r2 =>
    cases r2 with
    | cons r3 r4 => cases r4; exact ⟨_, _, rfl, r1, r3⟩
theorem call_int1 : CallR X (.type "int") (fun xs H Q => (∃ i, xs = [.int i] ∧ Q (.int i) H) ∨ ∃ k, xs = [.bl k] ∧ Q (.int (if k then 1 else 0)) H) := by
  intro pins s σ H xs us Q I r h
  rcases h with ⟨i, rfl, q⟩ | ⟨k, rfl, q⟩
  · obtain ⟨u, rfl, t, rfl⟩ := vals1 r
    exact call_int_int ⟨.int i, H, I, ⟨_, rfl⟩, q⟩
  · obtain ⟨u, rfl, r1⟩ := vals1 r
    cases r1
    exact call_int_bool ⟨.int (if k then 1 else 0), H, I.tok _, ⟨_, rfl⟩, q⟩
end
end L2
namespace L2
open PySem PySem.Spec PyProof.Rows
structure ObjM (h : Heap) (x dx C : Addr) (mA : Str → Option Value) : Prop where
  obj : h.get? x = some (PySem.W.instObj C dx)
  ns : h.Ns1 dx mA
  ne : dx ≠ x
theorem lookIn_ns {h : Heap} {dx : Addr} {mA : Str → Option Value} (n : h.Ns1 dx mA) : ∃ od, h.get? dx = some od ∧ ∀ name, PySem.W.lookIn name od = some (mA name) := by
  obtain ⟨o, es, ep, ho, hd, hk, _, hm⟩ := n
  refine ⟨o, ho, fun name => ?_⟩
  have e := hm name
  unfold nsFind findBy at e
  rw [← Array.find?_toList] at e
  unfold PySem.W.lookIn
  rw [hd]
  dsimp only
  split
  · rename_i y q
    rw [q] at e
    exact congrArg some e
  · rename_i q
    rw [q] at e
    have a : es.toList.any (·.refKey) = false := by
      rw [List.any_eq_false]
      intro y hy
      obtain ⟨z, t, hkey⟩ := hk y (Array.mem_toList_iff.mp hy)
      simp [DictEntry.refKey, hkey]
    have a' : ¬ es.toList.any (·.refKey) = true := by rw [a]; exact Bool.false_ne_true
    rw [if_neg a']
    exact congrArg some e
theorem ObjM.look {h : Heap} {x dx C : Addr} {mA : Str → Option Value} (I : ObjM h x dx C mA) : ∃ od, PySem.W.InstAt h x (PySem.W.instObj C dx) C (some od) ∧ ∀ name, PySem.W.lookIn name od = some (mA name) :=
  let ⟨od, ho, hl⟩ := lookIn_ns I.ns
  ⟨od, ⟨I.obj, rfl, rfl, ho⟩, hl⟩
section
variable {prog : Program} {w : World} {A : Around} {E : Value → Shared → Prop} {s : Shared} {K : PySem.W.Frag} {x dx C f : Addr} {mA : Str → Option Value} {name : Str} {v : Value}
end
theorem RelO.none_of {o : Option Value} (r : RelO none o) : o = none := by
  cases o with
  | none => rfl
  | some u => exact (show False from r).elim
section
variable {P : Program} {w : World} {H H' : Hp} {h h' : Heap} {a C dx : Addr} {fs fs' : List (Str × V)}
theorem ins_get (hok : HOk P w H h) (e : H a = some (.ins C dx fs)) : ∃ mA, ObjM h a dx C mA ∧ (∀ f, RelO (fs.lookup f) (mA f)) ∧ PySem.Within mA (fs.map (·.1)) ∧ fs.length ≤ 1000 ∧ H dx = some (.own a) := by
  obtain ⟨d, z, ne, ob, mA, n, r, q⟩ := (show ObjOk P w H h a (.ins C dx fs) from hok a _ e)
  exact ⟨mA, ⟨ob, n, ne⟩, r, q, z, d⟩
end
structure Cls (K : PySem.W.Frag) (C : Addr) : Prop where
  pg : PySem.W.plainGet K C Str.empty = true
  hd : PySem.W.hasDictIn K C = true
  po : PySem.W.plainOver K C = true
  sa : PySem.W.findIn K (.ref C) "__setattr__" = some (some (.builtin "object.__setattr__"))
theorem Cls.get {K : PySem.W.Frag} {C : Addr} (c : Cls K C) (f : Str) : PySem.W.plainGet K C f = true := c.pg
structure Con (K : PySem.W.Frag) (C : Addr) (f : Str) (v : V) (u : Value) : Prop where
  at_ : PySem.W.findIn K (.ref C) f = some (some u)
  rel : RelV v u
  get : PySem.W.specialIn K u "__get__" = some none
  cp : PySem.W.copiedNames.contains f = false
structure Meth (K : PySem.W.Frag) (C : Addr) (m : Str) (f : Addr) : Prop where
  at_ : PySem.W.findIn K (.ref C) m = some (some (.ref f))
  fn : PySem.W.isFn K (.ref f) = true
  kp : PySem.W.keepIn K (.ref f) = true
section
variable {X : Cx} {pins : List (Addr × Obj)} {σ : St} {H : Hp} {s : Shared} {a C dx : Addr} {fs : List (Str × V)} {f : Str} {v : V} {A : Around} {E : Value → Shared → Prop}
theorem Inv.made (I : Inv X pins σ H s) : Inv X pins σ (upd (upd H s.heap.objs.size (.own (s.heap.objs.size + 1))) (s.heap.objs.size + 1) (.ins C s.heap.objs.size []))
    { s with heap := (s.heap.push PySem.W.emptyDict).push (PySem.W.instObj C s.heap.objs.size) } := by
  have e1 : (s.heap.push PySem.W.emptyDict).get? s.heap.objs.size = some PySem.W.emptyDict := Heap.get?_push_size s.heap rfl
  have e2 : ((s.heap.push PySem.W.emptyDict).push (PySem.W.instObj C s.heap.objs.size)).get? (s.heap.objs.size + 1) = some (PySem.W.instObj C s.heap.objs.size) := by
    have := Heap.get?_push_size (s.heap.push PySem.W.emptyDict) (o := PySem.W.instObj C s.heap.objs.size) rfl
    rwa [Heap.size_push] at this
  have e3 : (s.heap.push PySem.W.emptyDict).Ns s.heap.objs.size (fun _ => none) := ⟨PySem.W.emptyDict, #[], _, e1, rfl, (fun e he => absurd he (by simp)), fun _ => rfl⟩
  have I1 := I.laid (a := s.heap.objs.size) (o := .own (s.heap.objs.size + 1)) (h' := s.heap.push PySem.W.emptyDict) (t' := s.toks) (fun b u q => Heap.get?_push_of_some _ q) (Nat.le_refl _) ⟨_, e1⟩
  refine I1.laid (a := s.heap.objs.size + 1) (o := .ins C s.heap.objs.size []) (t' := s.toks) (fun b u q => Heap.get?_push_of_some _ q) (Nat.le_of_eq (Heap.size_push _ _)) ?_
  have ne : s.heap.objs.size ≠ s.heap.objs.size + 1 := Nat.ne_of_lt (Nat.lt_succ_self _)
  refine ⟨by rw [upd_ne ne, upd_same], Nat.zero_le _, ne, e2, fun _ => none, (Heap.Ns1.of_empty e3).at fun o q => Heap.get?_push_of_some _ q, fun _ => True.intro, fun y hy => absurd rfl hy⟩
end
section
variable {X : Cx} {o e value : Expr} {f : Str} {pos pos' tpos : Pos} {ta tv : TE}
end
section
variable {X : Cx} {pins : List (Addr × Obj)} {σ : St} {H : Hp} {s : Shared} {A : Around} {E : Value → Shared → Prop} {Q : Value → Shared → Prop} {c : Value} {b : Bool}
inductive TyOf (K : PySem.W.Frag) (H : Hp) : V → Value → Prop where
  | non : TyOf K H .non (.type "NoneType")
  | bl (x : Bool) : TyOf K H (.bl x) (.type "bool")
  | int (i : Int) : TyOf K H (.int i) (.type "int")
  | str (x : Str) : TyOf K H (.str x) (.type "str")
  | flt (x : UInt64) : TyOf K H (.flt x) (.type "float")
  | lst {a : Addr} {xs : List V} (e : H a = some (.lst xs)) : TyOf K H (.ref a) (.type "list")
  | frz {a : Addr} {o : Obj} {xs : List V} (e : H a = some (.frz o (.lst xs))) : TyOf K H (.ref a) (.type "list")
  | tup {a : Addr} {xs : List V} (e : H a = some (.tup xs)) : TyOf K H (.ref a) (.type "tuple")
  | dK {a : Addr} {kvs : List (Key × V)} (e : H a = some (.dK kvs)) : TyOf K H (.ref a) (.type "dict")
  | dT {a : Addr} {kvs : List (List Key × V)} (e : H a = some (.dT kvs)) : TyOf K H (.ref a) (.type "dict")
  | ins {a C dx : Addr} {fs : List (Str × V)} (e : H a = some (.ins C dx fs)) (cl : Cls K C) (ha : PySem.W.findIn K (.ref C) "__class__" = some (some (.builtin "object.__class__")))
      (hn : PySem.W.specialIn K (.builtin "object.__class__") "__get__" = some (some (.builtin "getset_descriptor.__get__"))) (htk : PySem.W.takesIn K (.builtin "object.__class__") = some true)
      (hm : PySem.W.mroIn K C (.type "object") = some true) : TyOf K H (.ref a) (.ref C)
theorem isinst_ok {x : V} {u t : Value} (I : Inv X pins σ H s) (rx : RelV x u) (ty : TyOf X.K H x t) (e : PySem.W.kitOne X.K t c = some b) (h : ∀ tk, Q (.bool b) { s with toks := tk }) :
    wpAny (model X.prog X.w) A (call (.builtin "isinstance") [u, c]) Q E s := by
  cases ty with
  | non => cases (show u = Value.none from rx); exact PySem.W.kia_one PySem.W.kitx_none I.kIn True.intro e (fun z => nomatch z) h
  | bl y => cases (show u = Value.bool y from rx); exact PySem.W.kia_one PySem.W.kitx_bool I.kIn True.intro e (fun z => nomatch z) h
  | int i => obtain ⟨t, q⟩ := (show ∃ t, u = Value.int i t from rx); cases q; exact PySem.W.kia_one PySem.W.kitx_int I.kIn True.intro e (fun z => nomatch z) h
  | str y => obtain ⟨t, q⟩ := (show ∃ t, u = Value.str y t from rx); cases q; exact PySem.W.kia_one PySem.W.kitx_str I.kIn True.intro e (fun z => nomatch z) h
  | flt y => obtain ⟨t, q⟩ := (show ∃ t, u = Value.float y t from rx); cases q; exact PySem.W.kia_one PySem.W.kitx_float I.kIn True.intro e (fun z => nomatch z) h
  | @lst a xs ea =>
    cases (show u = Value.ref a from rx)
    obtain ⟨_, _, n, _, h1⟩ := (show ObjOk X.prog X.w H s.heap a (.lst xs) from I.hok a _ ea)
    exact PySem.W.kia_one PySem.W.kitx_list I.kIn ⟨_, h1, rfl⟩ e (fun z => nomatch z) h
  | @frz a ob xs ea =>
    cases (show u = Value.ref a from rx)
    obtain ⟨_, _, _, n, _, h1⟩ := (show ObjOk X.prog X.w H s.heap a (.frz ob (.lst xs)) from I.hok a _ ea)
    exact PySem.W.kia_one PySem.W.kitx_list I.kIn ⟨_, h1, rfl⟩ e (fun z => nomatch z) h
  | @tup a xs ea =>
    cases (show u = Value.ref a from rx)
    obtain ⟨_, _, _, p⟩ := (show ObjOk X.prog X.w H s.heap a (.tup xs) from I.hok a _ ea)
    obtain ⟨o, h1, h2, _⟩ := p
    exact PySem.W.kia_one PySem.W.kitx_tuple I.kIn ⟨o, h1, h2⟩ e (fun z => nomatch z) h
  | @dK a kvs ea =>
    cases (show u = Value.ref a from rx)
    obtain ⟨_, _, vs, _, p⟩ := (show ObjOk X.prog X.w H s.heap a (.dK kvs) from I.hok a _ ea)
    obtain ⟨o, es, ep, h1, h2, _⟩ := p
    exact PySem.W.kia_one PySem.W.kitx_dict I.kIn ⟨o, h1, h2.1⟩ e (fun z => nomatch z) h
  | @dT a kvs ea =>
    cases (show u = Value.ref a from rx)
    obtain ⟨_, _, xs, _, o, es, ep, h1, h2, _⟩ := (show ObjOk X.prog X.w H s.heap a (.dT kvs) from I.hok a _ ea)
    exact PySem.W.kia_one PySem.W.kitx_dict I.kIn ⟨o, h1, h2.1⟩ e (fun z => nomatch z) h
  | @ins a C dx fs ea cl ha hn htk hm =>
    cases (show u = Value.ref a from rx)
    obtain ⟨mA, O, _⟩ := ins_get I.hok ea
    obtain ⟨od, J, _⟩ := O.look
    exact PySem.W.kia_one (PySem.W.kitx_own (cl.get _) cl.hd ha hn htk hm) I.kIn J e (fun z => nomatch z) h
end
end L2
namespace L2
open PySem PySem.Spec PyProof.Rows
structure Room (k : Nat) (A : Around) : Prop where
  hd : A.handled = none
  dp : A.depth + 3 * k + 5 < recursionLimit
  un : A.units + 16 * k + 200 < cLine
theorem Room.mono {j k : Nat} {A : Around} (r : Room k A) (h : j ≤ k) : Room j A := ⟨r.hd, by have := r.dp; omega, by have := r.un; omega⟩
theorem Room.deeper {k : Nat} {A : Around} (r : Room (k + 1) A) (env : Env) : Room k (A.deeper env) :=
  ⟨r.hd, by have := r.dp; show A.depth + 1 + 3 * k + 5 < _; omega, by have := r.un; show A.units + 3 + 16 * k + 200 < _; omega⟩
theorem Room.in1 {k : Nat} {A : Around} (r : Room (k + 1) A) : Room k A.in1 :=
  ⟨r.hd, by have := r.dp; show A.depth + 3 * k + 5 < _; omega, by have := r.un; show A.units + 1 + 16 * k + 200 < _; omega⟩
theorem Room.depth {k : Nat} {A : Around} (r : Room k A) : A.depth < recursionLimit := by have := r.dp; omega
theorem Room.units {k : Nat} {A : Around} (r : Room k A) : A.units + 64 < cLine := by have := r.un; omega
theorem Room.units0 {k : Nat} {A : Around} (r : Room k A) : A.units < cLine := by have := r.un; omega
def tNil : TA := fun _ H Q => Q [] H
def tCons (ta : TE) (tr : TA) : TA := fun σ H Q => ta σ H fun x H1 => tr σ H1 fun xs H2 => Q (x :: xs) H2
section
variable {X : Cx} {e : Expr} {es : List Expr} {te : TE} {t : TA} {pos : Pos}
theorem pa_nil : PA X [] tNil := fun _ _ _ _ H Q I h => Calls.spliced_nil ⟨[], H, I, .nil, h⟩
theorem pa_cons (ha : PE X e te) (hr : PA X es t) (hs : starEach (e :: es) X.env = (false, eval e X.env) :: starEach es X.env := by rfl) : PA X (e :: es) (tCons te t) := by
  intro pos pins s σ H Q I h
  rw [hs]
  show wpAny _ _ (spliced ((false, eval e X.env) :: backTo pos (starEach es X.env))) _ _ s
  refine Calls.spliced_cons (thn (ha pins s σ H _ I h) fun u s1 ⟨x, H1, I1, r1, q1⟩ => ?_)
  exact thn (hr pos pins s1 σ H1 _ I1 q1) fun us s2 ⟨xs, H2, I2, r2, q2⟩ => ⟨x :: xs, H2, I2, .cons r1 r2, q2⟩
def tTup (t : TA) : TE := fun σ H Q => t σ H fun xs H1 => xs.length ≤ sizeLine ∧ ∀ p, H1 p = none → Q (.ref p) (upd H1 p (.tup xs))
def tLst (t : TA) : TE := fun σ H Q => t σ H fun xs H1 => xs.length ≤ sizeLine ∧ ∀ p, H1 p = none → Q (.ref p) (upd H1 p (.lst xs))
theorem pe_tup {x1} (h : PA X es t) : PE X (.Tuple es x1 pos) (tTup t) := by
  intro pins s σ H Q I hq
  refine wpAny_Tuple_spliced (thn (h pos pins s σ H _ I hq) fun us s1 ⟨xs, H1, I1, r, z, q⟩ => ⟨by rw [← r.length]; exact z, ?_⟩)
  have hf : H1 s1.heap.objs.size = none := I1.hok.fresh (Nat.le_refl _)
  refine ⟨.ref s1.heap.objs.size, upd H1 s1.heap.objs.size (.tup xs), I1.laid (t' := s1.toks) (fun b u e => Heap.get?_push_of_some _ e) (Nat.le_refl _) ?_, rfl, q _ hf⟩
  exact ⟨z, us, r, ⟨_, Heap.get?_push_size _ rfl, rfl, _, rfl⟩⟩
theorem pe_lst (h : PA X es t) : PE X (.List es pos) (tLst t) := by
  intro pins s σ H Q I hq
  refine wpAny_List_spliced (thn (h pos pins s σ H _ I hq) fun us s1 ⟨xs, H1, I1, r, z, q⟩ => ⟨by rw [← r.length]; exact z, ?_⟩)
  have hf : H1 s1.heap.objs.size = none := I1.hok.fresh (Nat.le_refl _)
  refine ⟨.ref s1.heap.objs.size, upd H1 s1.heap.objs.size (.lst xs), I1.laid (t' := s1.toks) (fun b u e => Heap.get?_push_of_some _ e) (Nat.le_refl _) ?_, rfl, q _ hf⟩
  exact ⟨z, us, 0, r, Heap.get?_push_size _ rfl⟩
end
abbrev Sp := List V → Hp → VK → XK → Prop
abbrev CXT := List Env → Hp → Shared → XK → Value → Shared → Prop
structure Env0 (P : Program) (w : World) (K : PySem.W.Frag) (mg : Str → Option Value) (base : Heap) (A : Around) (outer : List Env) (s : Shared) (H : Hp) : Prop where
  frames : A.frames = some outer
  mod : Mod K mg base
  bs : ∀ b o, base.get? b = some o → s.heap.get? b = some o ∧ H b = none
  bsz : base.objs.size ≤ s.heap.objs.size
  funs : s.heap.FunFrames base outer
  frf : ∀ b ∈ frs outer, H b = none
  hok : HOk P w H s.heap
  bare : AllBare s.gens
def CE (outer : List Env) (P : Program) (w : World) (H : Hp) (s : Shared) (Q : VK) (u : Value) (s' : Shared) : Prop :=
  ∃ v H', s'.os = s.os ∧ AllBare s'.gens ∧ Un (frs outer) [] H H' s.heap s'.heap ∧ HOk P w H' s'.heap ∧ RelV v u ∧ Q v H'
def CR (CX : CXT) (outer : List Env) (P : Program) (w : World) (H : Hp) (s : Shared) (Q : VK) (E : XK) (r : Result) (s' : Shared) : Prop :=
  match r with
  | .ok (.ret u) => CE outer P w H s Q u s'
  | .ok _ => False
  | .error e => CX outer H s E e s'
structure FnOk (P : Program) (w : World) (K : PySem.W.Frag) (mg : Str → Option Value) (base : Heap) (CX : CXT) (k : Nat) (f : Addr) (fd : FuncData) (ps : List Str) (sp : Sp) : Prop where
  len : ∀ vs H Q E, sp vs H Q E → vs.length = ps.length
  run : ∀ (A : Around) (outer : List Env) (s : Shared) (H : Hp) (args : Args) (us : List Value) (vs : List V) (Q : VK) (E : XK), Room k A → Env0 P w K mg base A outer s H → BindsTo s fd args (ps.zip us) → Vals vs us → sp vs H Q E →
    codeAny (model P w) A (.call (.ref f) args) (CR CX outer P w H s Q E) s
theorem FnOk.mono {P : Program} {w : World} {K : PySem.W.Frag} {mg : Str → Option Value} {base : Heap} {CX : CXT} {j k : Nat} {f : Addr} {fd : FuncData} {ps : List Str} {sp : Sp} (F : FnOk P w K mg base CX j f fd ps sp) (h : j ≤ k) :
    FnOk P w K mg base CX k f fd ps sp := ⟨F.len, fun A outer s H args us vs Q E hr => F.run A outer s H args us vs Q E (hr.mono h)⟩
theorem FnOk.imp {P : Program} {w : World} {K : PySem.W.Frag} {mg : Str → Option Value} {base : Heap} {CX : CXT} {k : Nat} {f : Addr} {fd : FuncData} {ps : List Str} {sp sp' : Sp} (F : FnOk P w K mg base CX k f fd ps sp)
    (h : ∀ vs H Q E, sp' vs H Q E → sp vs H Q E) : FnOk P w K mg base CX k f fd ps sp' :=
  ⟨fun vs H Q E q => F.len vs H Q E (h _ _ _ _ q), fun A outer s H args us vs Q E hr he hb hv hs => F.run A outer s H args us vs Q E hr he hb hv (h _ _ _ _ hs)⟩
theorem Env0.in1 {P : Program} {w : World} {K : PySem.W.Frag} {mg : Str → Option Value} {base : Heap} {A : Around} {outer : List Env} {s : Shared} {H : Hp} (e : Env0 P w K mg base A outer s H) :
    Env0 P w K mg base A.in1 outer s H := ⟨e.frames, e.mod, e.bs, e.bsz, e.funs, e.frf, e.hok, e.bare⟩
section
variable {X : Cx} {pins : List (Addr × Obj)} {σ : St} {H : Hp} {s s' : Shared}
theorem Inv.env0 (I : Inv X pins σ H s) : Env0 X.prog X.w X.K X.mg X.base X.A X.stack s H :=
  ⟨I.ok.frames, I.ok.mod, I.bs, Nat.le_trans I.ok.bsz I.sz, I.stack, I.stkFree, I.hok, I.bare⟩
theorem Inv.after {Q : VK} {u : Value} (I : Inv X pins σ H s) (h : CE X.stack X.prog X.w H s Q u s') : EP X pins σ Q u s' := by
  obtain ⟨v, H', os, bare, un, hok, r, q⟩ := h
  obtain ⟨hh, g, d, t, os'⟩ := s'
  obtain rfl : os' = s.os := os
  exact ⟨v, H', I.call (h' := hh) (g' := g) (d' := d) (t' := t) (ch := []) un hok bare (fun b z => absurd z (by simp)), r, q⟩
end
def tCall (sp : Sp) (dvs : List V) (E : XK) (t : TA) : TE := fun σ H Q => t σ H fun vs H1 => sp (vs ++ dvs) H1 Q E
def Binds (K : PySem.W.Frag) (fd : FuncData) (ps : List Str) (ds : List Value) : Prop :=
  ∀ (s : Shared) (us : List Value), K.In s.heap → (us ++ ds).length = ps.length → BindsTo s fd ⟨us, []⟩ (ps.zip (us ++ ds))
theorem Binds.all {K : PySem.W.Frag} {fd : FuncData} {ps : List Str} (h : ∀ us : List Value, us.length = ps.length → bindArgs fd ⟨us, []⟩ = pure (ps.zip us)) : Binds K fd ps [] := fun s us _ hl => by
  rw [List.append_nil] at hl ⊢
  exact .of_eq (h us hl)
def Passes (CX : CXT) (X : Cx) (E : XK) : Prop := ∀ (pins : List (Addr × Obj)) (σ : St) (H : Hp) (s : Shared) (e : Value) (s' : Shared), Inv X pins σ H s → CX X.stack H s E e s' → X.xe e s'
section
variable {X : Cx} {CX : CXT} {k : Nat} {f C : Addr} {fd : FuncData} {ps : List Str} {sp : Sp} {dvs : List V} {ds : List Value} {E : XK} {x m : Str} {p pos apos : Pos} {e o : Expr} {es : List Expr} {ta : TE} {t : TA}
theorem run_fn {pins : List (Addr × Obj)} {σ : St} {H : Hp} {s : Shared} {Q : VK} {us : List Value} {vs : List V} (F : FnOk X.prog X.w X.K X.mg X.base CX k f fd ps sp) (hr : Room k X.A) (hb : Binds X.K fd ps ds) (hd : Vals dvs ds) (hx : Passes CX X E)
    (I : Inv X pins σ H s) (r : Vals vs us) (h : sp (vs ++ dvs) H Q E) : wpAny (model X.prog X.w) X.A (call (.ref f) us) (EP X pins σ Q) X.xe s := by
  have r2 : Vals (vs ++ dvs) (us ++ ds) := r.append hd
  have hl : (us ++ ds).length = ps.length := by rw [← r2.length]; exact F.len _ _ _ _ h
  refine wpAny_call (codeAny_mono (F.run X.A X.stack s H ⟨us, []⟩ (us ++ ds) (vs ++ dvs) Q E hr I.env0 (hb s us I.kIn hl) r2 h) fun r s' hq => ?_)
  cases r with
  | error e => exact hx pins σ H s e s' I hq
  | ok fl =>
    cases fl with
    | ret u => exact I.after hq
    | next => exact False.elim hq
    | brk => exact False.elim hq
    | cont => exact False.elim hq
theorem pe_call (F : FnOk X.prog X.w X.K X.mg X.base CX k f fd ps sp) (hr : Room k X.A) (hg : Gl X x) (hm : X.mg x = some (.ref f)) (hk : PySem.W.keepIn X.K (.ref f) = true) (hb : Binds X.K fd ps ds) (hd : Vals dvs ds) (hx : Passes CX X E)
    (ha : PA X (e :: es) t) (hdb : (x == ("__debug__" : Str)) = false := by decide) (he : starEach (e :: es) X.env = (false, eval e X.env) :: starEach es X.env := by rfl) (hpl : (backTo pos (starEach es X.env)).any (·.1) = false := by rfl) :
    PE X (.Call (.Name x p) (e :: es) [] pos) (tCall sp dvs E t) := by
  intro pins s σ H Q I h
  refine wpAny_Call_Name_kw (ld_glob I hg hm ?_ hdb)
  refine PySem.W.callWith_K (h₀ := X.base) I.ok.mod.kin hk (thn (ha pos pins s σ H _ I h) fun us s1 ⟨vs, H1, I1, r, q⟩ => ⟨I1.kIn, ?_⟩) he hpl
  exact run_fn F hr hb hd hx I1 r q
theorem pe_call0 (F : FnOk X.prog X.w X.K X.mg X.base CX k f fd ps sp) (hr : Room k X.A) (hg : Gl X x) (hm : X.mg x = some (.ref f)) (hk : PySem.W.keepIn X.K (.ref f) = true) (hb : Binds X.K fd ps ds) (hd : Vals dvs ds) (hx : Passes CX X E)
    (hdb : (x == ("__debug__" : Str)) = false := by decide) : PE X (.Call (.Name x p) [] [] pos) (tCall sp dvs E tNil) := by
  intro pins s σ H Q I h
  refine wpAny_Call_Name_kw (ld_glob I hg hm ?_ hdb)
  exact PySem.W.callWith_K0 I.kIn hk (run_fn (us := []) F hr hb hd hx I .nil h)
structure Mk (K : PySem.W.Frag) (C f : Addr) : Prop where
  makes : PySem.W.makesIn K C = true
  init : PySem.W.findIn K (.ref C) "__init__" = some (some (.ref f))
  fn : PySem.W.isFn K (.ref f) = true
  kp : PySem.W.keepIn K (.ref C) = true
end
section
variable {X : Cx} {CX : CXT} {k : Nat} {f C : Addr} {fd : FuncData} {ps ks : List Str} {sp : Sp} {E : XK} {x m : Str} {p pos apos kpos : Pos} {e o : Expr} {es : List Expr} {kws : List Keyword} {te ta : TE} {t tk : TA} {nm : Option Str}
structure KBinds (K : PySem.W.Frag) (fd : FuncData) (ps ks : List Str) (g : List Value → List Value → List Value) (gV : List V → List V → List V) : Prop where
  to : ∀ (s : Shared) (us ws : List Value), K.In s.heap → (g us ws).length = ps.length → BindsTo s fd ⟨us, ks.zip ws⟩ (ps.zip (g us ws))
  rel : ∀ {vs : List V} {us : List Value} {zs : List V} {ws : List Value}, Vals vs us → Vals zs ws → Vals (gV vs zs) (g us ws)
variable {g : List Value → List Value → List Value} {gV : List V → List V → List V}
end
structure FnScope (N P : List Str) (sc : Scope) : Prop where
  kind : sc.kind = .function
  co : sc.isCoroutine = false
  gen : sc.isGenerator = false
  nd : N.Nodup
  pre : N.take P.length = P
  par : ∀ x ∈ P, sc.names.lookup x = some .local ∨ sc.names.lookup x = some .cell
  nofree : ∀ y ∈ sc.names, y.2 ≠ .free
theorem bindL_out {kindOf : Str → Option NameKind} {x : Str} : ∀ {binds : List (Str × Value)} {m : Str → Option Value}, (∀ v, (x, v) ∉ binds) → bindL kindOf binds m x = m x
  | [], _, _ => rfl
  | (n, v) :: r, m, h => by
    unfold bindL
    rw [bindL_out fun w hw => h w (List.mem_cons_of_mem _ hw)]
    split
    · have : x ≠ n := by rintro rfl; exact h v List.mem_cons_self
      simp [this]
    · rfl
theorem bindC_out {kindOf : Str → Option NameKind} {x : Str} : ∀ {binds : List (Str × Value)} {m : Str → Option Value}, (∀ v, (x, v) ∉ binds) → bindC kindOf binds m x = m x
  | [], _, _ => rfl
  | (n, v) :: r, m, h => by
    unfold bindC
    rw [bindC_out fun w hw => h w (List.mem_cons_of_mem _ hw)]
    split
    · rfl
    · have : x ≠ n := by rintro rfl; exact h v List.mem_cons_self
      simp [this]
theorem bindL_get {kindOf : Str → Option NameKind} {x : Str} {v : Value} : ∀ {P : List Str} {vs : List Value} {i : Nat} {m : Str → Option Value}, P.Nodup → P[i]? = some x → vs[i]? = some v → kindOf x = some .local →
    bindL kindOf (P.zip vs) m x = some v
  | [], _, _, _, _, h, _, _ => by simp at h
  | _ :: _, [], _, _, _, _, h, _ => by simp at h
  | p :: P, w :: vs, 0, m, nd, h1, h2, hk => by
    simp at h1 h2; subst h1; subst h2
    show bindL kindOf ((p, w) :: P.zip vs) m p = _
    unfold bindL
    rw [bindL_out fun v hv => (List.nodup_cons.mp nd).1 (List.of_mem_zip hv).1, if_pos hk]
    simp
  | p :: P, w :: vs, i + 1, m, nd, h1, h2, hk => by
    show bindL kindOf ((p, w) :: P.zip vs) m x = _
    unfold bindL
    exact bindL_get (i := i) (List.nodup_cons.mp nd).2 (by simpa using h1) (by simpa using h2) hk
theorem bindC_get {kindOf : Str → Option NameKind} {x : Str} {v : Value} : ∀ {P : List Str} {vs : List Value} {i : Nat} {m : Str → Option Value}, P.Nodup → P[i]? = some x → vs[i]? = some v → kindOf x ≠ some .local →
    bindC kindOf (P.zip vs) m x = some v
  | [], _, _, _, _, h, _, _ => by simp at h
  | _ :: _, [], _, _, _, _, h, _ => by simp at h
  | p :: P, w :: vs, 0, m, nd, h1, h2, hk => by
    simp at h1 h2; subst h1; subst h2
    show bindC kindOf ((p, w) :: P.zip vs) m p = _
    unfold bindC
    rw [bindC_out fun v hv => (List.nodup_cons.mp nd).1 (List.of_mem_zip hv).1, if_neg hk]
    simp
  | p :: P, w :: vs, i + 1, m, nd, h1, h2, hk => by
    show bindC kindOf ((p, w) :: P.zip vs) m x = _
    unfold bindC
    exact bindC_get (i := i) (List.nodup_cons.mp nd).2 (by simpa using h1) (by simpa using h2) hk
def start (N : List Str) (vs : List V) : St := vs.map some ++ List.replicate (N.length - vs.length) none
def cxOf (CX : CXT) (P : Program) (w : World) (K : PySem.W.Frag) (mg : Str → Option Value) (base : Heap) (N : List Str) (qual : Str) (scope : Scope) (f : Addr) (cd : Value) (A : Around) (outer : List Env) (s : Shared) (H : Hp) (E : XK) : Cx where
  prog := P
  w := w
  K := K
  mg := mg
  base := base
  A := A.deeper (envOfC qual scope s.heap.objs.size f cd)
  N := N
  s₀ := s
  H₀ := H
  env := envOfC qual scope s.heap.objs.size f cd
  outer := outer
  stack := envOfC qual scope s.heap.objs.size f cd :: outer
  ex := []
  calm := true
  fn := fun _ => true
  pn := []
  xe := fun e s' => wpAny (model P w) (A.deeper (envOfC qual scope s.heap.objs.size f cd)) (leaving (envOfC qual scope s.heap.objs.size f cd) e) (fun _ s'' => CX outer H s E e s'') (fun e' s'' => CX outer H s E e' s'') s'
theorem cell_has {sc : Scope} {n : Nat} {x : Str} (h : sc.names.lookup x = some .cell) : ∃ c, (cellsFrom n sc.names []).lookup x = some c := by
  have q := PySem.W.cellsFrom_some sc.names n [] (.inl h)
  exact Option.isSome_iff_exists.mp q
theorem inv_start {CX : CXT} {P : Program} {w : World} {K : PySem.W.Frag} {mg : Str → Option Value} {base : Heap} {N ps : List Str} {qual : Str} {scope : Scope} {f : Addr} {cd : Value} {A : Around} {outer : List Env} {s s1 : Shared} {H : Hp} {E : XK} {us : List Value} {vs : List V}
    (S : FnScope N ps scope) (hd : A.handled = none) (e0 : Env0 P w K mg base A outer s H) (hl : vs.length = ps.length) (r : Vals vs us)
    (x : InCallC s s.heap.objs.size (bindL (envOfC qual scope s.heap.objs.size f cd).kindOf (ps.zip us) fun _ => none) (cellsFrom (s.heap.objs.size + 1) scope.names []) (bindC (envOfC qual scope s.heap.objs.size f cd).kindOf (ps.zip us) fun _ => none) s1) :
    Inv (cxOf CX P w K mg base N qual scope f cd A outer s H E) [] (start N vs) H s1 := by
  have hpl : ps.length ≤ N.length := by have := congrArg List.length S.pre; rw [List.length_take] at this; omega
  obtain ⟨h1, tk, rfl, hk⟩ := x.done
  have noA : ∀ b : Addr, b ∉ (cxOf CX P w K mg base N qual scope f cd A outer s H E).ex := fun b z => absurd (show b ∈ ([] : List Addr) from z) (by simp)
  refine ⟨⟨e0.mod, S.kind, rfl, rfl, Nat.le_refl _, fun y z c h1 h2 => ?_, fun y hy => ?_, fun y c _ h => ?_, fun _ => hd, Around.frames_deeper e0.frames, .inr ⟨rfl, rfl⟩, fun b z => absurd z (noA b), e0.bs, e0.bsz, fun b _ _ => noA b, fun b z => absurd z (noA b), e0.funs, e0.frf⟩,
    rfl, e0.bare, Un.kept hk, ⟨_, x.toInCall.ns, fun i y v h1 h2 h3 => ?_⟩, fun y c h => ⟨_, x.cell y c h⟩, e0.hok.fresh (Nat.le_refl _), fun y c h => ?_, fun p hp => absurd (show p ∈ ([] : List (Addr × Obj)) from hp) (by simp), e0.hok.kept hk, ?_⟩
  · exact name_of_addr x.apart (PySem.mem_of_lookup h1) (PySem.mem_of_lookup h2)
  · have hy : scope.names.lookup y = some .cell ∨ scope.names.lookup y = some .free := hy
    rcases hy with hy | hy
    · exact cell_has hy
    · exact absurd rfl (S.nofree _ (PySem.mem_of_lookup hy))
  · exact Nat.le_of_lt (x.above y c (PySem.mem_of_lookup h))
  · have hi : i < vs.length := by
      unfold start at h2
      by_cases hi : i < vs.length
      · exact hi
      · rw [List.getElem?_append_right (by simpa using hi)] at h2
        rw [List.getElem?_replicate] at h2
        split at h2 <;> cases h2
    have ha : vs[i]? = some v := by
      unfold start at h2
      rw [List.getElem?_append_left (by simpa using hi), List.getElem?_map] at h2
      cases e : vs[i]? with
      | none => rw [e] at h2; cases h2
      | some a => rw [e] at h2; cases h2; rfl
    obtain ⟨u, hu, rv⟩ := r.get ha
    have hp : ps[i]? = some y := by
      rw [← S.pre, List.getElem?_take_of_lt (by omega)]; exact h1
    have ndP : ps.Nodup := by rw [← S.pre]; exact S.nd.sublist (List.take_sublist _ _)
    refine ⟨u, rv, ?_⟩
    rcases S.par y (List.mem_of_getElem? hp) with k | k
    · exact .inl ⟨k, bindL_get ndP hp hu k⟩
    · obtain ⟨c, e⟩ := cell_has (n := s.heap.objs.size + 1) k
      refine .inr ⟨.inl k, c, e, ?_⟩
      have q := x.cell y c e
      rw [bindC_get ndP hp hu (by show scope.names.lookup y ≠ _; rw [k]; decide)] at q
      exact q
  · exact e0.hok.fresh (Nat.le_of_lt (x.above y c (PySem.mem_of_lookup h)))
  · unfold start
    show _ = N.length
    rw [List.length_append, List.length_map, List.length_replicate]
    omega
theorem fn_of {CX : CXT} {P : Program} {w : World} {K : PySem.W.Frag} {mg : Str → Option Value} {base : Heap} {k : Nat} {f : Addr} {name qual : Str} {params : Arguments} {body : List Stmt} {scope : Scope} {dV kV doc pm cdv ct oc : Value} {an od : Option Addr}
    {osl : Array (Option Value)} {N ps : List Str} {sp : Sp} (lk : K.lookup f = some ⟨oc, od, .func (PySem.W.fnOf name qual params body scope dV kV doc pm an cdv ct), osl⟩) (hcd : PySem.W.codeIn K cdv qual = true) (S : FnScope N ps scope)
    (len : ∀ vs H Q E, sp vs H Q E → vs.length = ps.length)
    (hbody : ∀ (A : Around) (outer : List Env) (s : Shared) (H : Hp) (vs : List V) (Q : VK) (E : XK), Room k (A.deeper (envOfC qual scope s.heap.objs.size f cdv)) → sp vs H Q E →
      ∃ t, PSs (cxOf CX P w K mg base N qual scope f cdv A outer s H E) body t ∧ t { nx := fun _ H' => Q .non H', rt := Q } (start N vs) H) :
    FnOk P w K mg base CX (k + 1) f (PySem.W.fnOf name qual params body scope dV kV doc pm an cdv ct) ps sp := by
  refine ⟨len, fun A outer s H args us vs Q E hr e0 hb r hsp => ?_⟩
  have hl := len _ _ _ _ hsp
  have KX : K.In s.heap := e0.mod.kin.keeps fun b o e => (e0.bs b o e).1
  have lim : s.heap.NoLimit := e0.mod.nolimit.keeps fun b o e => (e0.bs b o e).1
  have hkind : ∀ y ∈ ps.zip us, scope.names.lookup y.1 = some .local ∨ (scope.names.lookup y.1 = some .cell ∧ ((cellsFrom (s.heap.objs.size + 1) scope.names []).lookup y.1).isSome = true) := fun ⟨n, v⟩ hy => by
    rcases S.par n (List.of_mem_zip hy).1 with q | q
    · exact .inl q
    · exact .inr ⟨q, PySem.W.cellsFrom_some _ _ _ (.inl q)⟩
  refine codeAny_call_function hr.depth (KX _ _ lk) rfl S.co S.gen rfl (PySem.W.codeRec_of KX hcd) (hb _ _ _ _ ?_)
  refine wpAny_newFunctionEnv_cells S.kind hkind fun env he s1 x => ?_
  subst he
  refine ⟨lim.keeps x.toInCall.keep, codeAny_func ?_⟩
  obtain ⟨t, ht, hq⟩ := hbody A outer s H vs Q E (hr.deeper _) hsp
  have I : Inv (cxOf CX P w K mg base N qual scope f cdv A outer s H E) [] (start N vs) H s1 := inv_start S hr.hd e0 hl r x
  refine wpAny_mono (ht [] s1 (start N vs) H _ I hq) (fun fl s' hs => ?_) fun e s' hs => hs
  have fin : ∀ {σ' : St} {H' : Hp} {v : V} {u : Value}, Inv (cxOf CX P w K mg base N qual scope f cdv A outer s H E) [] σ' H' s' → RelV v u → Q v H' → CE outer P w H s Q u s' :=
    fun {σ' H' v u} J rv q => ⟨v, H', J.os, J.bare, J.base, J.hok, rv, q⟩
  cases fl with
  | ret u =>
    obtain ⟨v, σ', H', J, rv, q⟩ := hs
    exact fin J rv q
  | next =>
    obtain ⟨σ', H', J, q⟩ := hs
    exact fin (v := V.non) (u := Value.none) J rfl q
  | brk =>
    obtain ⟨_, _, _, q⟩ := hs
    exact False.elim q
  | cont =>
    obtain ⟨_, _, _, q⟩ := hs
    exact False.elim q
end L2
namespace L2
open PySem PySem.Spec PyProof.Rows
section
variable {X : Cx} {x : Str} {p pos : Pos} {e : Expr} {es : List Expr} {t : TA} {id T : String} {r : List V → Hp → VK → Prop}
def tCB (r : List V → Hp → VK → Prop) (t : TA) : TE := fun σ H Q => t σ H fun vs H1 => r vs H1 Q
theorem pe_callB (hc : CallR X (.builtin id) r) (hg : Gl X x) (hm : X.mg x = none) (hv : bootBuiltins x = some (.builtin id)) (ha : PA X (e :: es) t) (hn : x ≠ "__name__" := by decide) (hdb : (x == ("__debug__" : Str)) = false := by decide)
    (he : starEach (e :: es) X.env = (false, eval e X.env) :: starEach es X.env := by rfl) (hpl : (backTo pos (starEach es X.env)).any (·.1) = false := by rfl) : PE X (.Call (.Name x p) (e :: es) [] pos) (tCB r t) := by
  intro pins s σ H Q I h
  refine wpAny_Call_Name_kw (ld_blt I hg hm hv ?_ hn hdb)
  exact PyProof.Rows.callWith_builtin1 (thn (ha pos pins s σ H _ I h) fun us s1 ⟨vs, H1, I1, r1, q1⟩ => hc pins s1 σ H1 vs us Q I1 r1 q1) he hpl
theorem pe_callTy (hc : CallR X (.type T) r) (hg : Gl X x) (hm : X.mg x = none) (hv : bootBuiltins x = some (.type T)) (ha : PA X (e :: es) t) (hn : x ≠ "__name__" := by decide) (hdb : (x == ("__debug__" : Str)) = false := by decide)
    (he : starEach (e :: es) X.env = (false, eval e X.env) :: starEach es X.env := by rfl) (hpl : (backTo pos (starEach es X.env)).any (·.1) = false := by rfl) : PE X (.Call (.Name x p) (e :: es) [] pos) (tCB r t) := by
  intro pins s σ H Q I h
  refine wpAny_Call_Name_kw (ld_blt I hg hm hv ?_ hn hdb)
  exact PyProof.Rows.callWith_type1 (thn (ha pos pins s σ H _ I h) fun us s1 ⟨vs, H1, I1, r1, q1⟩ => hc pins s1 σ H1 vs us Q I1 r1 q1) he hpl
end
end L2
namespace HT
open PySem PyProof.Rows
section
open PySem.SeqAt
open PySem.AutoSeq1 (wpAny_loadPart')
open PySem.MeetsSeq PySem.MeetsSeq2 PySem.MeetsSeq3
end
section
variable {prog : Program} {w : World} {A : Around} {E : Value → Shared → Prop} {s : Shared}
def sIx (n d : Nat) : Option Int → Nat
  | none => d
  | some v => if v < 0 then (v + (n : Int)).toNat else min v.toNat n
theorem sIx_nat (n d k : Nat) : sIx n d (some (k : Int)) = min k n := by
  show (if (k : Int) < 0 then ((k : Int) + (n : Int)).toNat else min (k : Int).toNat n) = min k n
  rw [if_neg (by omega), Int.toNat_natCast]
end
end HT
namespace L2
open PySem PySem.Spec PyProof.Rows
abbrev TO := St → Hp → (Option Int → Hp → Prop) → Prop
def PO (X : Cx) (e : Option Expr) (t : TO) : Prop :=
  ∀ (pins : List (Addr × Obj)) (s : Shared) (σ : St) (H : Hp) (Q : Option Int → Hp → Prop), Inv X pins σ H s → t σ H Q →
    wpAny (model X.prog X.w) X.A (evalPart e X.env) (fun u s' => ∃ o H', Inv X pins σ H' s' ∧ IsPart u o ∧ Q o H') X.xe s
def tNoPart : TO := fun _ H Q => Q none H
def tPart (t : TE) : TO := fun σ H Q => t σ H fun x H1 => ∃ i, x = .int i ∧ Q (some i) H1
theorem intsAre_of {ns : List Int} : ∀ {us : List Value}, Vals (ns.map V.int) us → IntsAre us ns := by
  induction ns with
  | nil => intro us r; rw [List.map_nil] at r; cases r; exact .nil
  | cons n ns ih =>
    intro us r
    rw [List.map_cons] at r
    cases r with
    | cons r1 r2 =>
      obtain ⟨t, e⟩ := r1
      subst e
      exact .cons n t (ih r2)
section
variable {X : Cx} {e : Expr} {te : TE} {lo hi : Option Expr} {tl th : TO} {pos p2 : Pos}
theorem po_none : PO X none tNoPart := by
  intro pins s σ H Q I h
  rw [evalPart_none]
  exact wpAny_pure ⟨none, H, I, .none, h⟩
theorem po_some (h : PE X e te) : PO X (some e) (tPart te) := by
  intro pins s σ H Q I hw
  rw [evalPart_some]
  refine thn (h pins s σ H _ I hw) fun u s1 ⟨x, H1, I1, r1, q1⟩ => ?_
  obtain ⟨i, rfl, q⟩ := q1
  obtain ⟨t, rfl⟩ := r1
  exact ⟨some i, H1, I1, .int i t, q⟩
def SlR (X : Cx) (r : V → Option Int → Option Int → Hp → VK → Prop) : Prop :=
  ∀ (pins : List (Addr × Obj)) (s : Shared) (σ : St) (H : Hp) (x : V) (v vl vu : Value) (lo hi : Option Int) (sl : Addr) (Q : VK), Inv X pins σ H s → RelV x v → s.heap.IsSliceOf sl vl vu .none → IsPart vl lo → IsPart vu hi → r x lo hi H Q →
    ∃ T id, typeLookup (.type T) "__getitem__" = pure (some (.builtin id)) ∧ s.TypeIs v T ∧ wpAny (model X.prog X.w) X.A (getItem v (.ref sl)) (EP X pins σ Q) X.xe s
theorem SlR.or {r r' : V → Option Int → Option Int → Hp → VK → Prop} (h : SlR X r) (h' : SlR X r') : SlR X (fun x lo hi H Q => r x lo hi H Q ∨ r' x lo hi H Q) := by
  intro pins s σ H x v vl vu lo hi sl Q I rx hs pl pu q
  rcases q with q | q
  · exact h pins s σ H x v vl vu lo hi sl Q I rx hs pl pu q
  · exact h' pins s σ H x v vl vu lo hi sl Q I rx hs pl pu q
def tSl (r : V → Option Int → Option Int → Hp → VK → Prop) (te : TE) (tl th : TO) : TE := fun σ H Q => te σ H fun x H1 => tl σ H1 fun l H2 => th σ H2 fun u H3 => r x l u H3 Q
theorem pe_slice {r : V → Option Int → Option Int → Hp → VK → Prop} (hr : SlR X r) (he : PE X e te) (hl : PO X lo tl) (hu : PO X hi th) : PE X (.Subscript e (.Slice lo hi none p2) pos) (tSl r te tl th) := by
  intro pins s σ H Q I h
  refine Subscript_ (thn (he pins s σ H _ I h) fun v s1 ⟨x, H1, I1, r1, q1⟩ => ?_)
  refine wpAny_Slice (thn (hl pins s1 σ H1 _ I1 q1) fun vl s2 ⟨l, H2, I2, pl, q2⟩ => thn (hu pins s2 σ H2 _ I2 q2) fun vu s3 ⟨u, H3, I3, pu, q3⟩ => ?_)
  rw [evalPart_none]
  refine wpAny_pure ?_
  have I4 : Inv X pins σ H3 { s3 with heap := s3.heap.push { cls := .type "slice", data := .fields #[vl, vu, .none] } } := I3.kept (t' := s3.toks) fun b ob q => Heap.get?_push_of_some _ q
  obtain ⟨T, id, hT, ht, hg⟩ := hr pins { s3 with heap := s3.heap.push { cls := .type "slice", data := .fields #[vl, vu, .none] } } σ H3 x v vl vu l u s3.heap.objs.size Q I4 r1 (Heap.IsSliceOf.new ..) pl pu q3
  show wpAny (model X.prog X.w) X.A (subscriptTail e (.Slice lo hi none p2) v (.ref s3.heap.objs.size)) (EP X pins σ Q) X.xe { s3 with heap := s3.heap.push { cls := .type "slice", data := .fields #[vl, vu, .none] } }
  exact tail_any (ops := [.ref s3.heap.objs.size, v]) ht hT hg (by with_unfolding_all rfl)
def cutV (xs : List V) (lo hi : Option Int) : List V := (xs.drop (HT.sIx xs.length 0 lo)).take (HT.sIx xs.length xs.length hi - HT.sIx xs.length 0 lo)
theorem cutV_length (xs : List V) (lo hi : Option Int) : (cutV xs lo hi).length ≤ xs.length := by
  unfold cutV
  rw [List.length_take, List.length_drop]
  omega
end
end L2
namespace L2
open PySem PySem.Spec PyProof.Rows
def ixN (n : Nat) (i : Int) : Option Nat := if 0 ≤ i then (if i < n then some i.toNat else none) else if -(n : Int) ≤ i then some (i + n).toNat else none
def atI {α : Type} (xs : List α) (i : Int) : Option α := (ixN xs.length i).bind fun j => xs[j]?
theorem ixN_seq {n : Nat} {i : Int} {j : Nat} (h : ixN n i = some j) : seqIndex? i n = some j ∧ j < n ∧ -(n : Int) ≤ i ∧ i < n := by
  unfold ixN at h
  by_cases h0 : 0 ≤ i
  · rw [if_pos h0] at h
    by_cases h1 : i < n
    · rw [if_pos h1] at h
      have e : i.toNat = j := Option.some.inj h
      exact ⟨by rw [seqIndex_of h0 h1, e], by omega, by omega, h1⟩
    · rw [if_neg h1] at h; cases h
  · rw [if_neg h0] at h
    by_cases h1 : -(n : Int) ≤ i
    · rw [if_pos h1] at h
      have e : (i + n).toNat = j := Option.some.inj h
      exact ⟨by rw [seqIndex_neg (by omega) h1, e], by omega, h1, by omega⟩
    · rw [if_neg h1] at h; cases h
theorem atI_get {α : Type} {xs : List α} {i : Int} {v : α} (h : atI xs i = some v) : ∃ j, seqIndex? i xs.length = some j ∧ xs[j]? = some v ∧ j < xs.length ∧ -(xs.length : Int) ≤ i ∧ i < xs.length := by
  unfold atI at h
  cases e : ixN xs.length i with
  | none => rw [e] at h; cases h
  | some j =>
    rw [e] at h
    obtain ⟨h1, h2, h3, h4⟩ := ixN_seq e
    exact ⟨j, h1, h, h2, h3, h4⟩
theorem atI_nat {α : Type} {xs : List α} {j : Nat} {v : α} (h : xs[j]? = some v) : atI xs (j : Int) = some v := by
  have hj : j < xs.length := (List.getElem?_eq_some_iff.mp h).1
  have e : ixN xs.length (j : Int) = some j := by
    unfold ixN
    rw [if_pos (by omega), if_pos (by omega)]; simp
  unfold atI; rw [e]; exact h
def PlainIx (b : Expr) : Prop := ∀ o i, subscripted b false o i = operate [o, i] (getItem o i)
def IxR (X : Cx) (r : R2) : Prop :=
  ∀ (value slice : Expr) (pins : List (Addr × Obj)) (s : Shared) (σ : St) (H : Hp) (x y : V) (v u : Value) (Q : VK), Inv X pins σ H s → RelV x v → RelV y u → r x y H Q →
    subscripted slice false v u = operate [v, u] (getItem v u) → wpAny (model X.prog X.w) X.A (subscriptTail value slice v u) (EP X pins σ Q) X.xe s
def MtR (X : Cx) (id : String) (r : V → List V → Hp → VK → Prop) : Prop :=
  ∀ (pins : List (Addr × Obj)) (s : Shared) (σ : St) (H : Hp) (x : V) (xs : List V) (v : Value) (us : List Value) (Q : VK), Inv X pins σ H s → RelV x v → Vals xs us → r x xs H Q →
    wpAny (model X.prog X.w) X.A (call (.builtin id) (v :: us)) (EP X pins σ Q) X.xe s
section
variable {X : Cx} {a b : Expr} {ta tb : TE} {pos : Pos}
theorem IxR.or {r r' : R2} (h : IxR X r) (h' : IxR X r') : IxR X (fun x y H Q => r x y H Q ∨ r' x y H Q) := by
  intro value slice pins s σ H x y v u Q I rx ry q hs
  rcases q with q | q
  · exact h value slice pins s σ H x y v u Q I rx ry q hs
  · exact h' value slice pins s σ H x y v u Q I rx ry q hs
theorem MtR.or {id : String} {r r' : V → List V → Hp → VK → Prop} (h : MtR X id r) (h' : MtR X id r') : MtR X id (fun x xs H Q => r x xs H Q ∨ r' x xs H Q) := by
  intro pins s σ H x xs v us Q I rx rs q
  rcases q with q | q
  · exact h pins s σ H x xs v us Q I rx rs q
  · exact h' pins s σ H x xs v us Q I rx rs q
theorem pe_ix {r : R2} (hr : IxR X r) (ha : PE X a ta) (hb : PE X b tb) (hs : PlainIx b) : PE X (.Subscript a b pos) (tOp r ta tb) := by
  intro pins s σ H Q I h
  exact Subscript_ (binT ha hb I h fun v u s2 x y H2 I2 rx ry q => hr a b pins s2 σ H2 x y v u Q I2 rx ry q (hs _ _))
def rIxL (K : PySem.W.Frag) : R2 := fun x y H Q => ∃ p xs i v, x = .ref p ∧ y = .int i ∧ SqL K H p xs ∧ atI xs i = some v ∧ Q v H
def rIxT (K : PySem.W.Frag) : R2 := fun x y H Q => ∃ p xs i v, x = .ref p ∧ y = .int i ∧ SqT K H p xs ∧ atI xs i = some v ∧ Q v H
def rIxS : R2 := fun x y H Q => ∃ z i c, x = .str z ∧ y = .int i ∧ z.length ≤ sizeLine ∧ atI z.cps.toList i = some c ∧ Q (.str ⟨#[c]⟩) H
theorem ix_list : IxR X (rIxL X.K) := by
  intro value slice pins s σ H x y v u Q I rx ry h hs
  obtain ⟨p, xs, i, z, rfl, rfl, hq, he, q⟩ := h
  cases rx
  obtain ⟨t, rfl⟩ := ry
  obtain ⟨its, r, pl, hz⟩ := I.list hq
  obtain ⟨j, h1, h2, h3, h4, h5⟩ := atI_get he
  obtain ⟨w, ew, rw'⟩ := r.get h2
  have hl := r.length
  have hn := line63
  have fin : EP X pins σ Q w s := ⟨z, H, I, rw', q⟩
  by_cases h0 : 0 ≤ i
  · have hj : i.toNat = j := by
      rw [seqIndex_of h0 h5] at h1
      exact Option.some.inj h1
    exact item_listR pl.isList h0 (by omega) (by rw [hj]; simpa using ew) fin hs
  · have hj : (i + (its.toArray.size : Int)).toNat = j := by
      rw [seqIndex_neg (by omega) h4] at h1
      rw [List.size_toArray, ← hl]
      exact Option.some.inj h1
    exact subscriptTail_builtinR (x := w) pl.isList.typeIs slot_list_getitem.lookup
      (wpAny_getItem_list_neg (Q := fun r s' => r = w ∧ EP X pins σ Q r s') pl.isList (by omega) (by rw [List.size_toArray] <;> omega) (by omega) (by rw [hj]; simpa using ew) ⟨rfl, fin⟩) hs
theorem ix_tup : IxR X (rIxT X.K) := by
  intro value slice pins s σ H x y v u Q I rx ry h hs
  obtain ⟨p, xs, i, z, rfl, rfl, hq, he, q⟩ := h
  cases rx
  obtain ⟨t, rfl⟩ := ry
  obtain ⟨its, r, pl, hz⟩ := I.tuple hq
  obtain ⟨j, h1, h2, h3, h4, h5⟩ := atI_get he
  obtain ⟨w, ew, rw'⟩ := r.get h2
  have hl := r.length
  have hn := line63
  have fin : EP X pins σ Q w s := ⟨z, H, I, rw', q⟩
  exact subscriptTail_builtinR (x := w) pl.typeIs slot_tuple_getitem.lookup
    (getItem_tuple (j := j) (Q := fun r s' => r = w ∧ EP X pins σ Q r s') pl (by omega) (by omega) (by rw [List.size_toArray, ← hl]; exact h1) (by simpa using ew) ⟨rfl, fin⟩) hs
theorem ix_str : IxR X rIxS := by
  intro value slice pins s σ H x y v u Q I rx ry h hs
  obtain ⟨z, i, c, rfl, rfl, hz, he, q⟩ := h
  obtain ⟨t, rfl⟩ := rx
  obtain ⟨t', rfl⟩ := ry
  obtain ⟨j, h1, h2, h3, h4, h5⟩ := atI_get he
  have hl : z.cps.toList.length = z.length := by simp [Str.length]
  rw [hl] at h1 h4 h5
  have hn := line63
  exact tail_any (typeIs_str s z t) slot_str_getitem.lookup (getItem_str (c := c) (by
    have e1 : decide (i < -(2 ^ 63 : Int)) = false := decide_eq_false (by omega)
    have e2 : decide (i ≥ 2 ^ 63) = false := decide_eq_false (by omega)
    rw [e1, e2, Bool.or_false]) (by rw [h1]; simpa using h2) ⟨.str ⟨#[c]⟩, H, I.tok _, ⟨_, rfl⟩, q⟩) hs
def rIx (K : PySem.W.Frag) : R2 := fun x y H Q => rIxL K x y H Q ∨ rIxT K x y H Q ∨ rIxS x y H Q
theorem ix_seq : IxR X (rIx X.K) := ix_list.or (ix_tup.or ix_str)
theorem Inv.lst {pins : List (Addr × Obj)} {σ : St} {H : Hp} {s : Shared} {p : Addr} {xs : List V} (I : Inv X pins σ H s) (h : H p = some (.lst xs)) :
    ∃ (its : List Value) (n : Nat), Vals xs its ∧ s.heap.get? p = some { cls := .type "list", data := .seq its.toArray n } ∧ xs.length ≤ sizeLine := by
  obtain ⟨z, its, n, r, e⟩ := I.hok p _ h
  exact ⟨its, n, r, e, z⟩
theorem slice_bounds (lo hi : Option Int) (n : Nat) : (sliceBounds lo hi none n).1 = ((HT.sIx n 0 lo : Nat) : Int) ∧ (sliceBounds lo hi none n).2.1 = ((HT.sIx n n hi : Nat) : Int) ∧ (sliceBounds lo hi none n).2.2 = 1 := by
  refine ⟨?_, ?_, rfl⟩
  · cases lo with
    | none => simp [sliceBounds, HT.sIx]
    | some i =>
      simp only [sliceBounds, HT.sIx, Option.getD_none, show (1 : Int) > 0 by decide, if_true]
      by_cases h : i < 0
      · simp only [h, if_true] <;> omega
      · simp only [h, if_false] <;> omega
  · cases hi with
    | none => simp [sliceBounds, HT.sIx]
    | some i =>
      simp only [sliceBounds, HT.sIx, Option.getD_none, show (1 : Int) > 0 by decide, if_true]
      by_cases h : i < 0
      · simp only [h, if_true] <;> omega
      · simp only [h, if_false] <;> omega
theorem slicePick_cut (its : List Value) (lo hi : Option Int) : slicePick its.toArray lo hi none = ((its.drop (HT.sIx its.length 0 lo)).take (HT.sIx its.length its.length hi - HT.sIx its.length 0 lo)).toArray := by
  obtain ⟨h1, h2, h3⟩ := slice_bounds lo hi its.toArray.size
  unfold slicePick
  rw [h1, h2, h3]
  simp only [sliceRange_one, pick_run, List.size_toArray] <;> rfl
def rSlL (K : PySem.W.Frag) : V → Option Int → Option Int → Hp → VK → Prop := fun x lo hi H Q => ∃ a xs, x = .ref a ∧ SqL K H a xs ∧ ∀ p, H p = none → Q (.ref p) (upd H p (.lst (cutV xs lo hi)))
theorem sl_list : SlR X (rSlL X.K) := by
  intro pins s σ H x v vl vu lo hi sl Q I rx hs pl pu h
  obtain ⟨a, xs, rfl, hx, q⟩ := h
  cases rx
  obtain ⟨its, r, ht, hz⟩ := I.list hx
  have hlen := r.length
  refine ⟨"list", _, slot_list_getitem.lookup, ht.isList.typeIs, ?_⟩
  refine wpAny_getItem_list_slice ht.isList hs pl pu .none (by simp) ?_ (by rw [List.size_toArray] <;> omega)
  rw [slicePick_cut, ← hlen]
  refine ⟨.ref s.heap.objs.size, _, I.laid (t' := s.toks) (o := .lst (cutV xs lo hi)) (fun b ob q => Heap.get?_push_of_some _ q) (Nat.le_refl _) ?_, rfl, q _ (I.hok.fresh (Nat.le_refl _))⟩
  exact ⟨Nat.le_trans (cutV_length xs lo hi) hz, _, 0, (r.drop (HT.sIx xs.length 0 lo)).take (HT.sIx xs.length xs.length hi - HT.sIx xs.length 0 lo), Heap.get?_push_size _ rfl⟩
def flatV : V → Bool
  | .non => true
  | .bl _ => true
  | .int _ => true
  | .str _ => true
  | _ => false
def eqV : V → V → Bool
  | .non, .non => true
  | .bl a, .bl b => a == b
  | .bl a, .int b => (if a then 1 else 0) == b
  | .int a, .bl b => a == (if b then 1 else 0)
  | .int a, .int b => a == b
  | .str a, .str b => a == b
  | _, _ => false
theorem eqAt_V {A : Around} {s : Shared} {y x : V} {u v : Value} (ry : RelV y u) (rx : RelV x v) (fy : flatV y = true) (fx : flatV x = true) : SeqAt.EqAt A s u v (eqV y x) := by
  cases y with
  | non =>
    cases ry
    cases x with
    | non => cases rx; exact SeqAt.EqAt.same _
    | bl b => cases rx; exact SeqAt.EqAt.none_bool b
    | int b => obtain ⟨t, rfl⟩ := rx; exact SeqAt.EqAt.none_int b t
    | str b => obtain ⟨t, rfl⟩ := rx; exact SeqAt.EqAt.none_str b t
    | _ => exact absurd (show false = true from fx) Bool.false_ne_true
  | bl a =>
    cases ry
    cases x with
    | non => cases rx; exact SeqAt.EqAt.bool_none a
    | bl b => cases rx; exact SeqAt.EqAt.bool_bool a b
    | int b => obtain ⟨t, rfl⟩ := rx; exact SeqAt.EqAt.bool_int a b t
    | str b => obtain ⟨t, rfl⟩ := rx; exact SeqAt.EqAt.bool_str a b t
    | _ => exact absurd (show false = true from fx) Bool.false_ne_true
  | int a =>
    obtain ⟨t', rfl⟩ := ry
    cases x with
    | non => cases rx; exact SeqAt.EqAt.int_none a t'
    | bl b => cases rx; exact SeqAt.EqAt.int_bool a t' b
    | int b => obtain ⟨t, rfl⟩ := rx; exact SeqAt.EqAt.int_int a t' b t
    | str b => obtain ⟨t, rfl⟩ := rx; exact SeqAt.EqAt.int_str a t' b t
    | _ => exact absurd (show false = true from fx) Bool.false_ne_true
  | str a =>
    obtain ⟨t', rfl⟩ := ry
    cases x with
    | non => cases rx; exact SeqAt.EqAt.str_none a t'
    | bl b => cases rx; exact SeqAt.EqAt.str_bool a t' b
    | int b => obtain ⟨t, rfl⟩ := rx; exact SeqAt.EqAt.str_int a t' b t
    | str b => obtain ⟨t, rfl⟩ := rx; exact SeqAt.EqAt.str_str a t' b t
    | _ => exact absurd (show false = true from fx) Bool.false_ne_true
  | _ => exact absurd (show false = true from fy) Bool.false_ne_true
def eqU (x : V) (u : Value) : Bool := match u with
  | .none => eqV .non x
  | .bool b => eqV (.bl b) x
  | .int i _ => eqV (.int i) x
  | .str z _ => eqV (.str z) x
  | _ => false
theorem eqU_of {x y : V} {u : Value} (r : RelV y u) (f : flatV y = true) : eqU x u = eqV y x := by
  cases y with
  | non => cases r; rfl
  | bl b => cases r; rfl
  | int i => obtain ⟨t, rfl⟩ := r; rfl
  | str z => obtain ⟨t, rfl⟩ := r; rfl
  | _ => exact absurd (show false = true from f) Bool.false_ne_true
theorem any_eqU {x : V} : ∀ {xs : List V} {us : List Value}, Vals xs us → xs.all flatV = true → us.any (eqU x) = xs.any fun y => eqV y x
  | _, _, .nil, _ => rfl
  | y :: xs, u :: us, .cons r t, f => by
    rw [List.all_cons, Bool.and_eq_true] at f
    rw [List.any_cons, List.any_cons, eqU_of r f.1, any_eqU t f.2]
theorem mem_eqAt {A : Around} {s : Shared} {x : V} {v : Value} (rx : RelV x v) (fx : flatV x = true) : ∀ {xs : List V} {us : List Value}, Vals xs us → xs.all flatV = true → ∀ u ∈ us, SeqAt.EqAt A s u v (eqU x u)
  | _, _, .nil, _ => fun u hu => by cases hu
  | y :: xs, u :: us, .cons r t, f => fun u' hu => by
    rw [List.all_cons, Bool.and_eq_true] at f
    rcases List.mem_cons.mp hu with rfl | hu
    · rw [eqU_of r f.1]; exact eqAt_V r rx f.1 fx
    · exact mem_eqAt rx fx t f.2 u' hu
def inV (x : V) (xs : List V) : Bool := xs.any fun y => eqV y x
def rIn (K : PySem.W.Frag) (neg : Bool) : R2 := fun x y H Q => ∃ p xs, y = .ref p ∧ (SqL K H p xs ∨ SqT K H p xs) ∧ flatV x = true ∧ xs.all flatV = true ∧ Q (.bl (if neg then !inV x xs else inV x xs)) H
theorem op_in_seq : OpR X (compareOp .In) (rIn X.K false) := by
  intro pins s σ H x y v u Q I rx ry h
  obtain ⟨p, xs, rfl, hq, fx, fs, q⟩ := h
  cases ry
  rcases hq with hq | hq
  · obtain ⟨its, r, pl, hz⟩ := I.list hq
    refine SeqAt.in_listAt (eqU x) pl.isList (fun w hw => mem_eqAt rx fx r fs w (by simpa using hw)) ⟨.bl _, H, I, rfl, ?_⟩
    rw [show its.toArray.any (eqU x) = its.any (eqU x) by simp, any_eqU r fs]
    exact q
  · obtain ⟨its, r, pl, hz⟩ := I.tuple hq
    refine SeqAt.in_tupleAt (eqU x) pl (fun w hw => mem_eqAt rx fx r fs w (by simpa using hw)) ⟨.bl _, H, I, rfl, ?_⟩
    rw [show its.toArray.any (eqU x) = its.any (eqU x) by simp, any_eqU r fs]
    exact q
theorem op_notIn_seq : OpR X (compareOp .NotIn) (rIn X.K true) := by
  intro pins s σ H x y v u Q I rx ry h
  obtain ⟨p, xs, rfl, hq, fx, fs, q⟩ := h
  cases ry
  rcases hq with hq | hq
  · obtain ⟨its, r, pl, hz⟩ := I.list hq
    refine SeqAt.notIn_listAt (eqU x) pl.isList (fun w hw => mem_eqAt rx fx r fs w (by simpa using hw)) ⟨.bl _, H, I, rfl, ?_⟩
    rw [show its.toArray.any (eqU x) = its.any (eqU x) by simp, any_eqU r fs]
    exact q
  · obtain ⟨its, r, pl, hz⟩ := I.tuple hq
    refine SeqAt.notIn_tupleAt (eqU x) pl (fun w hw => mem_eqAt rx fx r fs w (by simpa using hw)) ⟨.bl _, H, I, rfl, ?_⟩
    rw [show its.toArray.any (eqU x) = its.any (eqU x) by simp, any_eqU r fs]
    exact q
theorem call_len_seq : CallR X (.builtin "len") (fun xs H Q => ∃ p ys, xs = [.ref p] ∧ (SqL X.K H p ys ∨ SqT X.K H p ys) ∧ Q (.int ys.length) H) := by
  intro pins s σ H xs us Q I r h
  obtain ⟨p, ys, rfl, hq, q⟩ := h
  obtain ⟨u, rfl, rx⟩ := vals1 r
  cases rx
  have hn := line63
  rcases hq with hq | hq
  · obtain ⟨its, r', pl, hz⟩ := I.list hq
    have hlen := r'.length
    exact Calls.call_len_list pl.isList (by simp only [List.size_toArray] <;> omega) ⟨.int ys.length, H, I.tok _, ⟨s.toks + 1, by rw [List.size_toArray, hlen]⟩, q⟩
  · obtain ⟨its, r', pl, hz⟩ := I.tuple hq
    have hlen := r'.length
    exact len_tuple pl (by simp only [List.size_toArray] <;> omega) ⟨.int ys.length, H, I.tok _, ⟨s.toks + 1, by rw [List.size_toArray, hlen]⟩, q⟩
theorem call_len_str : CallR X (.builtin "len") (fun xs H Q => ∃ z, xs = [.str z] ∧ z.length ≤ sizeLine ∧ Q (.int z.length) H) := by
  intro pins s σ H xs us Q I r h
  obtain ⟨z, rfl, hz, q⟩ := h
  obtain ⟨u, rfl, t, rfl⟩ := vals1 r
  have hn := line63
  exact len_str (by omega) ⟨.int z.length, H, I.tok _, ⟨_, rfl⟩, q⟩
theorem CallR.or {f : Value} {r r' : List V → Hp → VK → Prop} (h : CallR X f r) (h' : CallR X f r') : CallR X f (fun xs H Q => r xs H Q ∨ r' xs H Q) := by
  intro pins s σ H xs us Q I rs q
  rcases q with q | q
  · exact h pins s σ H xs us Q I rs q
  · exact h' pins s σ H xs us Q I rs q
def tyV (K : PySem.W.Frag) (T : String) (x : V) (H : Hp) : Prop := match x with
  | .str _ => T = "str"
  | .int _ => T = "int"
  | .ref p => (T = "list" ∧ ∃ xs, SqL K H p xs) ∨ (T = "tuple" ∧ ∃ o, K.lookup p = some o ∧ o.cls = .type "tuple" ∧ o.dict = none) ∨
      (T = "dict" ∧ ((∃ kvs, H p = some (.dK kvs)) ∨ ∃ kvs, H p = some (.dT kvs))) ∨ (T = "set" ∧ ∃ S n, H p = some (.set S n))
  | _ => False
theorem tyV_is {pins : List (Addr × Obj)} {σ : St} {H : Hp} {s : Shared} {T : String} {x : V} {v : Value} (I : Inv X pins σ H s) (r : RelV x v) (ty : tyV X.K T x H) :
    s.TypeIs v T ∧ ∀ a, v = .ref a → ∃ ob, s.heap.get? a = some ob ∧ ob.dict = none := by
  cases x with
  | str z =>
    obtain ⟨t, rfl⟩ := r
    cases (show T = "str" from ty)
    exact ⟨typeIs_str s z t, fun _ e => nomatch e⟩
  | int i =>
    obtain ⟨t, rfl⟩ := r
    cases (show T = "int" from ty)
    exact ⟨typeIs_int s i t, fun _ e => nomatch e⟩
  | ref p =>
    cases r
    rcases ty with ⟨rfl, xs, hq⟩ | ⟨rfl, o, hk, hc, hd⟩ | ⟨rfl, hk⟩ | ⟨rfl, S, n, hk⟩
    · obtain ⟨its, _, pl, _⟩ := I.list hq
      refine ⟨pl.isList.typeIs, fun a e => ?_⟩
      cases e
      obtain ⟨o, n, e, c, hd, _⟩ := pl
      exact ⟨o, e, hd⟩
    · refine ⟨⟨o, I.kIn p o hk, hc⟩, fun a e => ?_⟩
      cases e
      exact ⟨o, I.kIn _ o hk, hd⟩
    · have z : ∃ o, s.heap.get? p = some o ∧ o.ExactDict := by
        rcases hk with ⟨kvs, hk⟩ | ⟨kvs, hk⟩
        · obtain ⟨_, _, _, _, o, _, _, e, ex, _⟩ := I.hok p _ hk
          exact ⟨o, e, ex⟩
        · obtain ⟨_, _, _, _, o, _, _, e, ex, _⟩ := I.hok p _ hk
          exact ⟨o, e, ex⟩
      obtain ⟨o, e, ex⟩ := z
      refine ⟨⟨o, e, ex.1⟩, fun a e2 => ?_⟩
      cases e2
      exact ⟨o, e, ex.2.1⟩
    · obtain ⟨o, _, _, _, e, ex, _⟩ := I.hok p _ hk
      refine ⟨⟨o, e, ex.1⟩, fun a e2 => ?_⟩
      cases e2
      exact ⟨o, e, ex.2.1⟩
  | _ => exact False.elim ty
def tBM0 (K : PySem.W.Frag) (T : String) (r : V → List V → Hp → VK → Prop) (to : TE) : TE := fun σ H Q => to σ H fun x H1 => tyV K T x H1 ∧ r x [] H1 Q
def tBM (K : PySem.W.Frag) (T : String) (r : V → List V → Hp → VK → Prop) (to : TE) (t : TA) : TE := fun σ H Q => to σ H fun x H1 => tyV K T x H1 ∧ t σ H1 fun xs H2 => r x xs H2 Q
variable {o e : Expr} {es : List Expr} {to : TE} {t : TA} {name : Str} {apos cpos : Pos} {T id : String} {r : V → List V → Hp → VK → Prop}
theorem pe_bm0 (pa : PlainAttrs T) (slot : Slot T name id) (hty : typeOf (.builtin id) = pure (.type "method_descriptor")) (hm : MtR X id r) (ho : PE X o to)
    (hbase : attributeBase o name X.env (eval o X.env) = eval o X.env := by rfl) (hline : (apos.endLine == cpos.line) = true := by rfl) : PE X (.Call (.Attribute o name apos) [] [] cpos) (tBM0 X.K T r to) := by
  intro pins s σ H Q I h
  refine wpAny_Call_method0_late hbase hline (thn (ho pins s σ H _ I h) fun v s1 ⟨x, H1, I1, r1, ty, q1⟩ => ?_)
  obtain ⟨h1, h2⟩ := tyV_is I1 r1 ty
  exact ⟨T, id, pa, slot, hty, h1, h2, Calls.callWith_builtin rfl (PySem.evalArgs_none (hm pins s1 σ H1 x [] v [] Q I1 r1 .nil q1))⟩
theorem pe_bm (pa : PlainAttrs T) (slot : Slot T name id) (hty : typeOf (.builtin id) = pure (.type "method_descriptor")) (hm : MtR X id r) (ho : PE X o to) (ha : PA X (e :: es) t)
    (hbase : attributeBase o name X.env (eval o X.env) = eval o X.env := by rfl)
    (hfew : ((backTo cpos (starEach (e :: es) X.env)).all (fun x => !x.1) && (backToKw cpos (keywordEach [] X.env)).all (fun x => x.1.isSome)
      && decide ((e :: es).length + ([] : List Keyword).length + (if ([] : List Keyword).isEmpty then 0 else 1) < 30)) = true := by rfl)
    (hline : (apos.endLine == cpos.line) = true := by rfl) (hs : starEach (e :: es) X.env = (false, eval e X.env) :: starEach es X.env := by rfl) (hplain : (backTo cpos (starEach es X.env)).any (·.1) = false := by rfl) :
    PE X (.Call (.Attribute o name apos) (e :: es) [] cpos) (tBM X.K T r to t) := by
  intro pins s σ H Q I h
  refine wpAny_Call_method_late hbase hfew hline rfl (thn (ho pins s σ H _ I h) fun v s1 ⟨x, H1, I1, r1, ty, q1⟩ => ?_)
  obtain ⟨h1, h2⟩ := tyV_is I1 r1 ty
  refine ⟨T, id, pa, slot, hty, h1, h2, ?_⟩
  have hA := ha cpos pins s1 σ H1 _ I1 q1
  rw [hs] at hA ⊢
  refine Calls.callWith_builtin (by show (false || (backTo cpos (starEach es X.env)).any (·.1)) = false; rw [hplain] <;> rfl) (Calls.evalArgs_plain ?_)
  exact thn hA fun us s2 ⟨vs, H2, I2, r2, q2⟩ => hm pins s2 σ H2 x vs v us Q I2 r1 r2 q2
end
end L2
namespace L2
open PySem PySem.Spec PyProof.Rows
def MtM (X : Cx) (id : String) (r : V → List V → Hp → VK → Prop) : Prop :=
  ∀ (pins : List (Addr × Obj)) (s : Shared) (σ : St) (H : Hp) (x : V) (xs : List V) (v : Value) (us : List Value) (Q : VK), Inv X pins σ H s → RelV x v → Vals xs us → r x xs H Q →
    wpAny (model X.prog X.w) X.A (call (.builtin id) (v :: us)) (EP X pins σ Q) X.xe s
theorem Vals.one : ∀ {x : V} {us : List Value}, Vals [x] us → ∃ u, us = [u] ∧ RelV x u
  | _, _, .cons r .nil => ⟨_, rfl, r⟩
theorem Vals.zero : ∀ {us : List Value}, Vals [] us → us = []
  | _, .nil => rfl
theorem Vals.dropLast {xs : List V} {us : List Value} (h : Vals xs us) : Vals xs.dropLast us.dropLast := by
  induction h with
  | nil => exact .nil
  | cons r t ih =>
    cases t with
    | nil => exact .nil
    | cons q t' => exact .cons r ih
theorem Vals.eraseIdx : ∀ {xs : List V} {us : List Value} (i : Nat), Vals xs us → Vals (xs.eraseIdx i) (us.eraseIdx i)
  | _, _, _, .nil => .nil
  | _, _, 0, .cons _ t => t
  | _, _, i + 1, .cons r t => .cons r (Vals.eraseIdx i t)
theorem Vals.reverse {xs : List V} {us : List Value} (h : Vals xs us) : Vals xs.reverse us.reverse := by
  induction h with
  | nil => exact .nil
  | cons r t ih => rw [List.reverse_cons, List.reverse_cons]; exact Vals.append ih (.cons r .nil)
section
variable {X : Cx} {pins : List (Addr × Obj)} {σ : St} {H : Hp} {s : Shared} {l b : Addr} {xs ys zs : List V}
theorem Inv.lset {its its' : List Value} {n : Nat} {f : Array Value → Array Value} {t' : Nat} (I : Inv X pins σ H s) (hH : H l = some (.lst xs))
    (e : s.heap.get? l = some { cls := .type "list", data := .seq its.toArray n }) (hf : f its.toArray = its'.toArray) (hv : Vals ys its') (hz : ys.length ≤ sizeLine) :
    Inv X pins σ (upd H l (.lst ys)) { s with heap := s.heap.update l (Obj.mapSeq f), toks := t' } := by
  have q := PySem.IsL.update e f
  rw [hf] at q
  refine I.write (x := l) (e := l) (by rw [hH]; exact trivial) (.inl rfl) (fun b' u hb hu => (Heap.get?_update_other s.heap (Obj.mapSeq f) (Ne.symm hb)).trans hu) ⟨_, q⟩ ?_
  exact ⟨hz, its', _, hv, q⟩
theorem Inv.lnew {its : List Value} {t' : Nat} (I : Inv X pins σ H s) (hv : Vals ys its) (hz : ys.length ≤ sizeLine) :
    Inv X pins σ (upd H s.heap.objs.size (.lst ys)) { s with heap := s.heap.push { cls := .type "list", data := .seq its.toArray }, toks := t' } :=
  I.laid (fun _ _ q => Heap.get?_push_of_some _ q) (Nat.le_refl _) ⟨hz, its, 0, hv, Heap.get?_push_size _ rfl⟩
theorem Inv.fresh (I : Inv X pins σ H s) : H s.heap.objs.size = none := I.hok.fresh (Nat.le_refl _)
theorem Inv.lstM (I : Inv X pins σ H s) (hH : H l = some (.lst xs)) : xs.length ≤ sizeLine ∧ ∃ (its : List Value) (n : Nat), Vals xs its ∧ xs.length = its.length ∧ s.heap.get? l = some { cls := .type "list", data := .seq its.toArray n } := by
  obtain ⟨z, its, n, r, e⟩ := I.hok l _ hH
  exact ⟨z, its, n, r, r.length, e⟩
end
section
variable {X : Cx}
def rAppend : V → List V → Hp → VK → Prop := fun x vs H Q => ∃ l xs y, x = .ref l ∧ vs = [y] ∧ H l = some (.lst xs) ∧ xs.length < sizeLine ∧ Q .non (upd H l (.lst (xs ++ [y])))
theorem mt_append : MtM X "list.append" rAppend := by
  intro pins s σ H x vs v us Q I rx rv h
  obtain ⟨l, xs, y, rfl, rfl, hH, hz, q⟩ := h
  cases rx
  obtain ⟨u, rfl, ru⟩ := rv.one
  obtain ⟨z, its, n, r, hl, e⟩ := I.lstM hH
  refine call_meets F.slot_list_append ⟨_, e, rfl⟩ F.entry_list_append (F.args_list_append_2 _ _) (PySem.list_append l its.toArray n u (by rw [List.size_toArray]; omega)) ⟨e, ?_⟩
  refine ⟨.non, _, I.lset (its' := its ++ [u]) hH e (by simp) (r.append (.cons ru .nil)) ?_, rfl, q⟩
  rw [List.length_append, List.length_singleton]
  omega
end
section
variable {prog : Program} {w : World} {A : Around} {E : Value → Shared → Prop} {s : Shared}
set_option maxRecDepth 100000 in
end
section
variable {X : Cx}
end
end L2
namespace L2
open PySem PySem.Spec PyProof.Rows
section
variable {κ : Type} [DecidableEq κ]
def valV (kvs : List (κ × V)) (k : κ) : Option V := (kvs.find? fun kv => decide (kv.1 = k)).map (·.2)
def putK (kvs : List (κ × V)) (k : κ) (v : V) : List (κ × V) :=
  if (kvs.any fun kv => decide (kv.1 = k)) = true then kvs.map (fun kv => if kv.1 = k then (kv.1, v) else kv) else kvs ++ [(k, v)]
def dropK (kvs : List (κ × V)) (k : κ) : List (κ × V) := kvs.filter fun kv => decide (kv.1 ≠ k)
theorem valV_pos {p : κ × V} {r : List (κ × V)} {k : κ} (e : p.1 = k) : valV (p :: r) k = some p.2 := by simp [valV, List.find?_cons, e]
theorem valV_neg {p : κ × V} {r : List (κ × V)} {k : κ} (e : ¬ p.1 = k) : valV (p :: r) k = valV r k := by simp [valV, List.find?_cons, e]
theorem valV_any (k : κ) : ∀ kvs : List (κ × V), (kvs.any fun kv => decide (kv.1 = k)) = (valV kvs k).isSome
  | [] => rfl
  | p :: r => by
    rw [List.any_cons]
    by_cases e : p.1 = k
    · simp only [valV_pos e, decide_eq_true e, Bool.true_or, Option.isSome_some]
    · rw [valV_neg e, decide_eq_false e, Bool.false_or]; exact valV_any k r
theorem length_putK (kvs : List (κ × V)) (k : κ) (v : V) : (putK kvs k v).length ≤ kvs.length + 1 := by
  unfold putK
  split
  · rw [List.length_map]; omega
  · rw [List.length_append, List.length_cons, List.length_nil]; omega
theorem RelO.isSome_eq {o : Option V} {u : Option Value} (r : RelO o u) : o.isSome = u.isSome := by
  cases o with
  | none => cases u with
    | none => rfl
    | some _ => exact (show False from r).elim
  | some _ => cases u with
    | none => exact (show False from r).elim
    | some _ => rfl
theorem RelO.getD {o : Option V} {u : Option Value} {d : V} {d' : Value} (r : RelO o u) (rd : RelV d d') : RelV (o.getD d) (u.getD d') := by
  cases o with
  | none => cases u with
    | none => exact rd
    | some _ => exact (show False from r).elim
  | some _ => cases u with
    | none => exact (show False from r).elim
    | some _ => exact r
theorem KV.val {kvs : List (κ × V)} {vs : List (κ × Value)} (r : KV kvs vs) (k : κ) : RelO (valV kvs k) (valueAt vs k) := by
  unfold KV at r
  induction r with
  | nil => exact True.intro
  | @cons p q ps qs h t ih =>
    obtain ⟨h1, h2⟩ := h
    by_cases e : p.1 = k
    · have e' : q.1 = k := h1.symm.trans e
      have b : valueAt (q :: qs) k = some q.2 := by simp [valueAt, List.find?_cons, e']
      rw [valV_pos e, b]; exact h2
    · have e' : ¬ q.1 = k := fun z => e (h1.trans z)
      have b : valueAt (q :: qs) k = valueAt qs k := by simp [valueAt, List.find?_cons, e']
      rw [valV_neg e, b]; exact ih
theorem KV.any {kvs : List (κ × V)} {vs : List (κ × Value)} (r : KV kvs vs) (k : κ) : (kvs.any fun kv => decide (kv.1 = k)) = vs.any fun kv => decide (kv.1 = k) := by
  unfold KV at r
  induction r with
  | nil => rfl
  | cons h t ih => rw [List.any_cons, List.any_cons, ih, h.1]
theorem KV.repl {kvs : List (κ × V)} {vs : List (κ × Value)} (r : KV kvs vs) (k : κ) {y : V} {u : Value} (ry : RelV y u) :
    KV (kvs.map fun kv => if kv.1 = k then (kv.1, y) else kv) (vs.map fun kv => if kv.1 = k then (kv.1, u) else kv) := by
  unfold KV at r ⊢
  induction r with
  | nil => exact .nil
  | @cons p q ps qs h t ih =>
    rw [List.map_cons, List.map_cons]
    refine .cons ?_ ih
    obtain ⟨h1, h2⟩ := h
    by_cases e : p.1 = k
    · rw [if_pos e, if_pos (h1.symm.trans e)]; exact ⟨h1, ry⟩
    · rw [if_neg e, if_neg (fun z => e (h1.trans z))]; exact ⟨h1, h2⟩
theorem KV.put {kvs : List (κ × V)} {vs : List (κ × Value)} (r : KV kvs vs) (k : κ) {y : V} {u : Value} (ry : RelV y u) : KV (putK kvs k y) (stored vs k u) := by
  unfold putK stored
  rw [r.any k]
  by_cases e : (vs.any fun kv => decide (kv.1 = k)) = true
  · rw [if_pos e, if_pos e]; exact r.repl k ry
  · rw [if_neg e, if_neg e]; exact Paired.snoc r ⟨rfl, ry⟩
theorem KV.drop {kvs : List (κ × V)} {vs : List (κ × Value)} (r : KV kvs vs) (k : κ) : KV (dropK kvs k) (without vs k) := by
  unfold KV at r ⊢
  unfold dropK without
  induction r with
  | nil => exact .nil
  | @cons p q ps qs h t ih =>
    obtain ⟨h1, h2⟩ := h
    rw [List.filter_cons, List.filter_cons]
    by_cases e : p.1 = k
    · have a : ¬ decide (p.1 ≠ k) = true := by simp [e]
      have b : ¬ decide (q.1 ≠ k) = true := by simp [h1.symm.trans e]
      rw [if_neg a, if_neg b]; exact ih
    · have e' : ¬ q.1 = k := fun z => e (h1.trans z)
      have a : decide (p.1 ≠ k) = true := by simp [e]
      have b : decide (q.1 ≠ k) = true := by simp [e']
      rw [if_pos a, if_pos b]; exact .cons ⟨h1, h2⟩ ih
theorem KV.length {kvs : List (κ × V)} {vs : List (κ × Value)} (r : KV kvs vs) : kvs.length = vs.length := Paired.length r
end
theorem kV_is {P : Program} {w : World} {k : Key} {u : Value} (r : RelV (kV k) u) : (mixKind P w).is k u = true := by
  cases k with
  | inl i => obtain ⟨t, e⟩ := (show ∃ t, u = Value.int i t from r); subst e; exact mixKind_int P w i t
  | inr x => obtain ⟨t, e⟩ := (show ∃ t, u = Value.str x t from r); subst e; exact mixKind_str P w x t
theorem items_are {P : Program} {w : World} : ∀ {ks : List Key} {us : List Value}, Vals (ks.map kV) us → ItemsAre (mixKind P w) ks us
  | [], _, r => by rw [List.map_nil] at r; cases r; exact .nil
  | k :: ks, _, r => by
    rw [List.map_cons] at r
    cases r with
    | cons h t => exact .cons (kV_is h) (items_are t)
abbrev KT (H : Hp) : List (List Key × V) → List (List Key × Addr × Value) → Prop := Paired fun p q => p.1 = q.1 ∧ H q.2.1 = some (.tup (p.1.map kV)) ∧ RelV p.2 q.2.2
theorem KT.val {H : Hp} {kvs : List (List Key × V)} {xs : List (List Key × Addr × Value)} (r : KT H kvs xs) (k : List Key) : RelO (valV kvs k) ((atKey xs k).map (·.2)) := by
  induction r with
  | nil => exact True.intro
  | @cons p q ps qs h t ih =>
    obtain ⟨h1, _, h2⟩ := h
    by_cases e : p.1 = k
    · have e' : q.1 = k := h1.symm.trans e
      have b : atKey (q :: qs) k = some q.2 := by simp [atKey, List.find?_cons, e']
      rw [valV_pos e, b]; exact h2
    · have e' : ¬ q.1 = k := fun z => e (h1.trans z)
      have b : atKey (q :: qs) k = atKey qs k := by simp [atKey, List.find?_cons, e']
      rw [valV_neg e, b]; exact ih
theorem KT.repl {H : Hp} {kvs : List (List Key × V)} {xs : List (List Key × Addr × Value)} (r : KT H kvs xs) (k : List Key) {y : V} {u : Value} (ry : RelV y u) :
    KT H (kvs.map fun kv => if kv.1 = k then (kv.1, y) else kv) (xs.map (putAt k u)) := by
  induction r with
  | nil => exact .nil
  | @cons p q ps qs h t ih =>
    rw [List.map_cons, List.map_cons]
    refine .cons ?_ ih
    obtain ⟨h1, h2, h3⟩ := h
    unfold putAt
    by_cases e : p.1 = k
    · rw [if_pos e, if_pos (h1.symm.trans e)]; exact ⟨h1, h2, ry⟩
    · rw [if_neg e, if_neg (fun z => e (h1.trans z))]; exact ⟨h1, h2, h3⟩
theorem KT.put {H : Hp} {kvs : List (List Key × V)} {xs : List (List Key × Addr × Value)} (r : KT H kvs xs) (k : List Key) {b : Addr} {y : V} {u : Value} (hb : H b = some (.tup (k.map kV))) (ry : RelV y u) :
    KT H (putK kvs k y) (storedH xs k b u) := by
  have e : (kvs.any fun kv => decide (kv.1 = k)) = (atKey xs k).isSome := by
    rw [valV_any, (r.val k).isSome_eq, Option.isSome_map]
  unfold putK storedH
  rw [e]
  by_cases q : (atKey xs k).isSome = true
  · rw [if_pos q, if_pos q]; exact r.repl k ry
  · rw [if_neg q, if_neg q]; exact Paired.snoc r ⟨rfl, hb, ry⟩
theorem KT.keeps {H H' : Hp} {kvs : List (List Key × V)} {xs : List (List Key × Addr × Value)} (r : KT H kvs xs) (ht : ∀ b ys, H b = some (.tup ys) → H' b = some (.tup ys)) : KT H' kvs xs :=
  Paired.mapP r fun _ _ z => ⟨z.1, ht _ _ z.2.1, z.2.2⟩
section
variable {P : Program} {w : World} {H : Hp} {h : Heap} {a : Addr}
theorem rd_of {u : HO} (ok : HOk P w H h) (e : Rd H a u) : ObjOk P w H h a u := e.ok ok
theorem dk_rd {kvs : List (Key × V)} (ok : HOk P w H h) (e : Rd H a (.dK kvs)) : kvs.length ≤ sizeLine ∧ (a == sysModules) = false ∧ ∃ vs, KV kvs vs ∧ h.DictOf (mixKind P w) a vs :=
  show ObjOk P w H h a (.dK kvs) from rd_of ok e
theorem dk_of {kvs : List (Key × V)} (ok : HOk P w H h) (e : H a = some (.dK kvs)) : kvs.length ≤ sizeLine ∧ (a == sysModules) = false ∧ ∃ vs, KV kvs vs ∧ h.DictOf (mixKind P w) a vs := dk_rd ok (.inl e)
theorem key_of {ks : List Key} (ok : HOk P w H h) (e : H a = some (.tup (ks.map kV))) : (tupleKind (mixKind P w)).is h ks a := by
  obtain ⟨_, its, r, o, h1, h2, n, h3⟩ := (show ObjOk P w H h a (.tup (ks.map kV)) from ok a _ e)
  exact ⟨o, its.toArray, n, h1, h2, h3, by simpa using items_are r⟩
theorem dt_rd {kvs : List (List Key × V)} (ok : HOk P w H h) (e : Rd H a (.dT kvs)) : kvs.length ≤ sizeLine ∧ (a == sysModules) = false ∧
    ∃ xs, KT H kvs xs ∧ h.DictOfH (tupleKind (mixKind P w)) a xs := by
  obtain ⟨z, y, xs, r, o, es, ep, h1, h2, h3, h4, h5⟩ := (show ObjOk P w H h a (.dT kvs) from rd_of ok e)
  refine ⟨z, y, xs, r, o, es, ep, h1, h2, h3, h4, fun x hx => ?_, h5⟩
  have all : ∀ {l : List (List Key × V)} {m : List (List Key × Addr × Value)}, KT H l m → ∀ x ∈ m, (tupleKind (mixKind P w)).is h x.1 x.2.1 := by
    intro l m q
    induction q with
    | nil => intro x hx; exact nomatch hx
    | @cons p q ps qs hq t ih =>
      intro x hx
      rcases List.mem_cons.mp hx with e | hx
      · subst e
        exact key_of ok (by rw [← hq.1]; exact hq.2.1)
      · exact ih x hx
  exact all r x hx
theorem dt_of {kvs : List (List Key × V)} (ok : HOk P w H h) (e : H a = some (.dT kvs)) : kvs.length ≤ sizeLine ∧ (a == sysModules) = false ∧
    ∃ xs, KT H kvs xs ∧ h.DictOfH (tupleKind (mixKind P w)) a xs := dt_rd ok (.inl e)
end
def DGet (H : Hp) (a : Addr) (y : V) (r : Option V) : Prop :=
  (∃ kvs k, Rd H a (.dK kvs) ∧ y = kV k ∧ r = valV kvs k) ∨ ∃ kvs k b, Rd H a (.dT kvs) ∧ y = .ref b ∧ H b = some (.tup (k.map kV)) ∧ r = valV kvs k
def DPut (H : Hp) (a : Addr) (y v : V) (H' : Hp) : Prop :=
  (∃ kvs k, H a = some (.dK kvs) ∧ y = kV k ∧ kvs.length < sizeLine ∧ H' = upd H a (.dK (putK kvs k v))) ∨
  ∃ kvs k b, H a = some (.dT kvs) ∧ y = .ref b ∧ H b = some (.tup (k.map kV)) ∧ kvs.length < sizeLine ∧ H' = upd H a (.dT (putK kvs k v))
theorem DGet.k {H : Hp} {a : Addr} {kvs : List (Key × V)} {k : Key} (e : H a = some (.dK kvs)) : DGet H a (kV k) (valV kvs k) := .inl ⟨kvs, k, .inl e, rfl, rfl⟩
theorem DGet.t {H : Hp} {a b : Addr} {kvs : List (List Key × V)} {k : List Key} (e : H a = some (.dT kvs)) (eb : H b = some (.tup (k.map kV))) : DGet H a (.ref b) (valV kvs k) := .inr ⟨kvs, k, b, .inl e, rfl, eb, rfl⟩
theorem DPut.k {H : Hp} {a : Addr} {kvs : List (Key × V)} {k : Key} {v : V} (e : H a = some (.dK kvs)) (hl : kvs.length < sizeLine) : DPut H a (kV k) v (upd H a (.dK (putK kvs k v))) := .inl ⟨kvs, k, e, rfl, hl, rfl⟩
theorem DPut.t {H : Hp} {a b : Addr} {kvs : List (List Key × V)} {k : List Key} {v : V} (e : H a = some (.dT kvs)) (eb : H b = some (.tup (k.map kV))) (hl : kvs.length < sizeLine) :
    DPut H a (.ref b) v (upd H a (.dT (putK kvs k v))) := .inr ⟨kvs, k, b, e, rfl, eb, hl, rfl⟩
section
variable {X : Cx} {pins : List (Addr × Obj)} {σ : St} {H : Hp} {s : Shared} {a : Addr} {y v : V} {u r : Value} {o : Option V} {A : Around} {E : Value → Shared → Prop}
theorem Inv.big (I : Inv X pins σ H s) : sysModules < s.heap.objs.size := by
  have h : mainGlobals < s.heap.objs.size := (I.mod.glob.keeps I.bk).lt
  exact Nat.lt_trans (by decide) h
theorem d_write {h' : Heap} {t' : Nat} {ob : HO} (I : Inv X pins σ H s) (mu : Mut (H a)) (hs : Heap.SameBut a s.heap h') (he : ∃ q, h'.get? a = some q) (new : ObjOk X.prog X.w (upd H a ob) h' a ob) :
    Inv X pins σ (upd H a ob) { s with heap := h', toks := t' } :=
  I.write (x := a) (e := a) mu (.inl rfl) (fun b q hb z => (hs.2 b hb).trans z) he new
theorem dk_new {P : Program} {w : World} {H' : Hp} {h' : Heap} {kvs : List (Key × V)} {vs : List (Key × Value)} (z : kvs.length ≤ sizeLine) (hd : (a == sysModules) = false) (rel : KV kvs vs) (dd : h'.DictOf (mixKind P w) a vs) :
    ObjOk P w H' h' a (.dK kvs) := ⟨z, hd, vs, rel, dd⟩
theorem d_setItem {H' : Hp} {Q : Unit → Shared → Prop} (hu : A.units + 1 < cLine) (I : Inv X pins σ H s) (g : DPut H a y v H') (ry : RelV y u) (rv : RelV v r) (h : ∀ s', Inv X pins σ H' s' → Q () s') :
    wpAny (model X.prog X.w) A (setItem (.ref a) u r) Q E s := by
  rcases g with ⟨kvs, k, e, ey, l, eH⟩ | ⟨kvs, k, b, e, ey, eb, l, eH⟩
  · subst ey eH
    obtain ⟨z, hd, vs, rel, dd⟩ := dk_of I.hok e
    have hz : vs.length ≤ sizeLine := by rw [← rel.length]; exact z
    have hl : (putK kvs k v).length ≤ sizeLine := by have := length_putK kvs k v; omega
    refine wpAny_setItem_pairs (hsz := hz) (kV_is ry) dd fun h' dd' hs => h _ ?_
    have he : ∃ q, h'.get? a = some q := let ⟨q, _, _, hq, _⟩ := dd'; ⟨q, hq⟩
    exact d_write I (by rw [e]; exact True.intro) hs he (dk_new hl hd (rel.put k rv) dd')
  · subst ey eH
    cases (show u = Value.ref b from ry)
    obtain ⟨z, hd, xs, rel, dd⟩ := dt_of I.hok e
    have hz : xs.length ≤ sizeLine := by rw [← Paired.length rel]; exact z
    have hl : (putK kvs k v).length ≤ sizeLine := by have := length_putK kvs k v; omega
    refine wpAny_setItem_heap (hsz := hz) (tupleKind_room_in1 hu) (key_of I.hok eb) dd fun h' dd' hs => h _ ?_
    obtain ⟨q, es, ep, hq, h2, h3, h4, _, h5⟩ := dd'
    refine d_write I (by rw [e]; exact True.intro) hs ⟨q, hq⟩ ⟨hl, hd, _, (rel.put k eb rv).keeps fun c ys ec => ?_, q, es, ep, hq, h2, h3, h4, h5⟩
    rw [upd_ne (ne_of ec e (fun z => nomatch z))]
    exact ec
end
section
variable {X : Cx} {pins : List (Addr × Obj)} {σ : St} {H : Hp} {s : Shared} {a : Addr} {kvs : List (Key × V)} {k : Key} {u : Value} {A : Around} {E : Value → Shared → Prop}
end
def tDGet (td ty : TE) : TE := fun σ H Q => td σ H fun x H1 => ty σ H1 fun y H2 => ∃ a v, x = .ref a ∧ DGet H2 a y (some v) ∧ Q v H2
def tDIn (ty td : TE) : TE := fun σ H Q => ty σ H fun y H1 => td σ H1 fun x H2 => ∃ a o, x = .ref a ∧ DGet H2 a y o ∧ Q (.bl o.isSome) H2
def tDNotIn (ty td : TE) : TE := fun σ H Q => ty σ H fun y H1 => td σ H1 fun x H2 => ∃ a o, x = .ref a ∧ DGet H2 a y o ∧ Q (.bl (!o.isSome)) H2
def sDPut (td ty tv : TE) : TS := fun D σ H => tv σ H fun v H1 => td σ H1 fun x H2 => ty σ H2 fun y H3 => ∃ a H4, x = .ref a ∧ DPut H3 a y v H4 ∧ D.nx σ H4
section
variable {X : Cx} {o i e value : Expr} {pos pos' tpos : Pos} {td ty tv : TE}
theorem ps_dput (hu : X.A.units + 1 < cLine) (ho : PE X o td) (hi : PE X i ty) (hv : PE X value tv) (hs : swapsWith value (some (.Subscript o i pos')) pos.line X.env = pure false) :
    PS X (.Assign [.Subscript o i pos'] value pos) (sDPut td ty tv) := by
  intro pins s σ H D I h
  refine wpAny_Assign_Subscript (thn (hv pins s σ H _ I h) fun r s1 ⟨v, H1, I1, rv, q1⟩ => thn (ho pins s1 σ H1 _ I1 q1) fun u s2 ⟨x, H2, I2, rx, q2⟩ => thn (hi pins s2 σ H2 _ I2 q2) fun iv s3 ⟨y, H3, I3, ry, a, H4, ex, g, q3⟩ => ?_) hs
  subst ex
  obtain rfl : u = Value.ref a := rx
  exact d_setItem hu I3 g ry rv fun s4 I4 => ⟨σ, H4, I4, q3⟩
end
theorem dk_empty {P : Program} {w : World} {H : Hp} (h : Heap) (hb : sysModules < h.objs.size) : ObjOk P w H (h.push { cls := .type "dict", data := .dict #[] }) h.objs.size (.dK []) :=
  ⟨Nat.zero_le _, beq_eq_false_iff_ne.mpr (Ne.symm (Nat.ne_of_lt hb)), [], .nil, Heap.DictOf.new h⟩
def tDNewK : TE := fun _ H Q => ∀ p, H p = none → Q (.ref p) (upd H p (.dK []))
section
variable {X : Cx} {pos : Pos}
theorem pe_dnewK : PE X (.Dict [] [] pos) tDNewK := fun pins s σ H Q I h =>
  wpAny_Dict_empty ⟨.ref s.heap.objs.size, _, I.laid (a := s.heap.objs.size) (o := .dK []) (t' := s.toks) (fun _ _ q => Heap.get?_push_of_some _ q) (Nat.le_refl _) (dk_empty s.heap I.big), rfl, h _ (I.hok.fresh (Nat.le_refl _))⟩
end
structure M1 (X : Cx) (o : Expr) (m : Str) (apos : Pos) (e : Expr) (cpos : Pos) : Prop where
  base : attributeBase o m X.env (eval o X.env) = eval o X.env
  few : ((backTo cpos (starEach [e] X.env)).all (fun x => !x.1) && (backToKw cpos (keywordEach [] X.env)).all (fun x => x.1.isSome)
    && decide (([e] : List Expr).length + ([] : List Keyword).length + (if ([] : List Keyword).isEmpty then 0 else 1) < 30)) = true
  line : (apos.endLine == cpos.line) = true
  trees : backTo cpos (starEach [e] X.env) = [(false, eval e X.env)]
structure M2 (X : Cx) (o : Expr) (m : Str) (apos : Pos) (e f : Expr) (cpos : Pos) : Prop where
  base : attributeBase o m X.env (eval o X.env) = eval o X.env
  few : ((backTo cpos (starEach [e, f] X.env)).all (fun x => !x.1) && (backToKw cpos (keywordEach [] X.env)).all (fun x => x.1.isSome)
    && decide (([e, f] : List Expr).length + ([] : List Keyword).length + (if ([] : List Keyword).isEmpty then 0 else 1) < 30)) = true
  line : (apos.endLine == cpos.line) = true
  trees : backTo cpos (starEach [e, f] X.env) = [(false, eval e X.env), (false, eval f X.env)]
section
variable {X : Cx} {pins : List (Addr × Obj)} {σ : St} {H : Hp} {s : Shared} {a : Addr} {y d : V} {u r : Value} {o : Option V} {A : Around} {E : Value → Shared → Prop}
end
section
variable {X : Cx} {o e f : Expr} {apos cpos : Pos} {td ty tx : TE}
end
section
variable {X : Cx} {pins : List (Addr × Obj)} {σ : St} {H : Hp} {s : Shared} {a : Addr} {kvs : List (Key × V)} {A : Around} {E : Value → Shared → Prop}
end
section
variable {X : Cx} {pins : List (Addr × Obj)} {σ : St} {H : Hp} {s : Shared} {a : Addr} {y : V} {u : Value} {A : Around} {E : Value → Shared → Prop}
end
end L2
namespace Att
open PySem PySem.W PySem.Calls PyProof.Rows
theorem ints_of_wellAll {P : Params} {h : Heap} : ∀ (ns : List Int) (vs : List Value), WellAll P h vs (ns.map WData.int) → IntsAre vs ns := by
  intro ns
  induction ns with
  | nil =>
    intro vs w
    rw [List.map_nil] at w
    cases w
    exact .nil
  | cons n ns ih =>
    intro vs w
    rw [List.map_cons] at w
    cases w with
    | cons a b =>
      cases a
      exact .cons _ _ (ih _ b)
theorem script_of {l : OpenLaw} {n : Nat} (hn : l.most = some n) {P : Params} {h : Heap} {args : List WData} {vals : List Value}
    (hpre : l.row.toRowW.claim.pre args = true) (hwl : WellAll P h vals args) :
    ∃ a vs ns, vals = [Value.ref a] ∧ args = [WData.list (ns.map WData.int)] ∧ h.get? a = some { cls := .type "list", data := .seq vs.toArray } ∧ IntsAre vs ns ∧ ns.length ≤ n := by
  have hsh : WShape.hasAll [] args [.list .int] = true := (pre_splitW hpre).1
  have hc : l.pre.holds [] { args := args } = true := (pre_splitW hpre).2
  obtain ⟨d, r, rfl, h1, h2⟩ := hasAllW_cons hsh
  obtain rfl := hasAllW_nil h2
  obtain ⟨xs, rfl, h3⟩ := hasW_list h1
  obtain ⟨ns, rfl⟩ := items_int h3
  have hlen : ns.length ≤ n := by
    unfold OpenLaw.pre at hc
    have h4 : (WTm.not (.lt (.lit (.int (n : Int))) (.len (.arg 0)))).holds [] { args := [.list (ns.map .int)] } = true := by
      have h4 := (holds_andW hc).1
      rw [hn] at h4
      exact h4
    have h5 := condW_of h4 (w_not (w_lt w_lit (w_len_list (w_arg rfl))))
    rw [List.length_map] at h5
    refine Nat.le_of_not_lt fun q => ?_
    have q' : (n : Int) < ((ns.length : Nat) : Int) := by omega
    first
      | (rw [decide_eq_true q'] at h5; exact absurd h5 (by decide))
      | (simp at h5; omega)
  cases hwl with
  | cons w1 w2 =>
    cases w2
    cases w1 with
    | list ho hall => exact ⟨_, _, ns, rfl, rfl, ho, ints_of_wellAll ns _ hall, hlen⟩
theorem post_true (l : OpenLaw) (args : List WData) : l.row.toRowW.claim.post args (.bool true) args = true :=
  postW_of (r := l.row.toRowW) (X := (true == true))
    (show WShape.has [] (.bool true) .bool = true by first | rfl | decide | simp [WShape.has, WShape.arms, WShape.armsAll])
    (show (WTm.eq .res (.lit (.bool true))).value [] { args := args, res := some (.bool true), after := args } = some (.bool (true == true)) from w_eq_bool (w_res rfl) w_lit) rfl
theorem attach_call {l : OpenLaw} {n : Nat} {q : Program} {loose : List Str} {XP : (Str → Option Value) → Heap → Prop} {YP : World → Heap → Prop} {d : DefRec}
    (hn : l.most = some n) (hdf : d.params.defaults = [])
    (call : ∀ (w : World) (s₀ s₁ : Shared) (mg mb : Str → Option Value) (fa : Addr) (o : Obj) (pm cd doc : Value) (a : Addr) (vs : List Value) (ns : List Int),
      Ground q loose [] XP w s₀ mg mb s₁.heap → YP w s₁.heap →
      s₁.heap.get? fa = some o → o.data = .func (docDef d.name d.params d.body d.scope pm cd doc) → s₁.heap.CodeRec cd d.name → mg d.name = some (.ref fa) →
      s₁.heap.get? a = some { cls := .type "list", data := .seq vs.toArray } → IntsAre vs ns → ns.length ≤ n → s₁.gens = #[] →
      codeAny (model l.prog w) callerA (.call (.ref fa) ⟨[.ref a], []⟩) (fun r s' => r = .ok (.ret (.bool true)) ∧ OldK s₁.heap s'.heap ∧ s'.os = s₁.os ∧ AllBare s'.gens) s₁) :
    WalkO q loose XP YP l.row.toRowW d [] (fun f vs => PySem.call f vs) := by
  intro w s₀ s₁ mg mb G Y fa o pm cd doc dV kV ho hd hcd hD hmg hg args vals as hpre hlay hrd hwl hlo
  obtain rfl : dV = .none := Dflts.none hD hdf
  obtain rfl : kV = .none := Dflts.noKw hD
  obtain ⟨a, vs, ns, rfl, rfl, hobj, hints, hlen⟩ := script_of hn hpre hwl
  refine enter_call (codeAny_mono (call w s₀ s₁ mg mb fa o pm cd doc a vs ns G Y ho (fd_plain hd) hcd hmg hobj hints hlen hg) fun r s' hq => ?_)
  obtain ⟨rfl, h2, h3, h4⟩ := hq
  exact ⟨.inl ⟨.bool true, .bool true, [], rfl, fun _ => rfl, .bool true, post_true l _, fun _ => ⟨List.Pairwise.nil, fun _ hm => (nomatch hm)⟩⟩, h2, h3, h4⟩
section
variable {prog : Program} {w : World} {A : Around} {E : Value → Shared → Prop} {s : Shared} {K : Frag}
end
end Att
namespace L2
open PySem PySem.Spec PyProof.Rows
theorem vals_ints : ∀ {vs : List Value} {ns : List Int}, IntsAre vs ns → Vals (ns.map V.int) vs
  | _, _, .nil => .nil
  | _, _, .cons n t h => .cons ⟨t, rfl⟩ (vals_ints h)
def Only (H : Hp) : Prop := ∀ b, H b = none ∨ ∃ o xs, H b = some (.frz o (.lst xs))
theorem law_call {P : Program} {w : World} {K : PySem.W.Frag} {mg mb : Str → Option Value} {CX : CXT} {k : Nat} {fa a : Addr} {fd : FuncData} {x : Str} {sp : Sp} {s₁ : Shared} {vs : List Value} {ns : List Int}
    (KX : K.In s₁.heap) (hns : s₁.heap.Ns mainGlobals mg) (hb : s₁.heap.Ns builtinsNs mb) (hbb : ∀ x : Str, x ≠ "__name__" → mb x = bootBuiltins x) (hlim : s₁.heap.NoLimit) (hg : s₁.gens = #[])
    (ha : s₁.heap.get? a = some { cls := .type "list", data := .seq vs.toArray }) (hi : IntsAre vs ns) (hl : ns.length ≤ sizeLine) (hr : Room k callerA)
    (F : ∀ base : Heap, K.In base → base.Ns mainGlobals mg → FnOk P w K mg base CX k fa fd [x] sp) (hbind : ∀ (s : Shared) (u : Value), BindsTo s fd ⟨[u], []⟩ [(x, u)])
    (hsp : ∀ H : Hp, Only H → SqL K H a (ns.map V.int) → sp [.ref a] H (fun v _ => v = .bl true) fun _ _ _ => False)
    (hCX : ∀ H e s', CX [] H s₁ (fun _ _ _ => False) e s' → False) :
    codeAny (model P w) callerA (.call (.ref fa) ⟨[.ref a], []⟩) (fun r s' => r = .ok (.ret (.bool true)) ∧ OldK s₁.heap s'.heap ∧ s'.os = s₁.os ∧ AllBare s'.gens) s₁ := by
  have rv := vals_ints hi
  have lenV := hi.length
  -- from an abstract heap in which nothing but the script may be tracked
  have core : ∀ H : Hp, Only H → SqL K H a (ns.map V.int) → HOk P w H s₁.heap → (∀ b, H b ≠ none → b = a) → (H a ≠ none → K.lookup a = none) →
      codeAny (model P w) callerA (.call (.ref fa) ⟨[.ref a], []⟩) (fun r s' => r = .ok (.ret (.bool true)) ∧ OldK s₁.heap s'.heap ∧ s'.os = s₁.os ∧ AllBare s'.gens) s₁ := by
    intro H hO hS hok hA hK
    have base_of : ∀ {b : Addr} {o : Obj}, s₁.heap.get? b = some o → H b = none → (hidT s₁.heap H).get? b = some o := fun e n => hidT_get e n
    have noA : ∀ {b : Addr} {o : Obj} {es : Array DictEntry} {ep : Nat}, s₁.heap.get? b = some o → o.data = .dict es ep → H b = none := fun {b o es ep} e d => by
      cases q : H b with
      | none => rfl
      | some u =>
        have e' : b = a := hA b (by rw [q]; simp)
        subst e'
        rw [ha] at e; cases e
        have d' : Data.seq vs.toArray _ = Data.dict es ep := d
        cases d'
    have nsK : ∀ {b : Addr} {m : Str → Option Value}, s₁.heap.Ns b m → (hidT s₁.heap H).Ns b m := fun {b m} ⟨o, es, ep, e, d, r⟩ => ⟨o, es, ep, base_of e (noA e d), d, r⟩
    have hKb : K.In (hidT s₁.heap H) := fun b o e => base_of (KX b o e) (by
      cases q : H b with
      | none => rfl
      | some u =>
        have e' : b = a := hA b (by rw [q]; simp)
        subst e'
        rw [hK (by rw [q]; simp)] at e; cases e)
    have hM : Mod K mg (hidT s₁.heap H) := ⟨hKb, nsK hns, ⟨mb, nsK hb, hbb⟩, let ⟨mc, h1, h2⟩ := hlim; ⟨mc, nsK h1, h2⟩⟩
    have e0 : Env0 P w K mg (hidT s₁.heap H) callerA [] s₁ H := ⟨rfl, hM, fun b o e => of_hidT e, Nat.le_of_eq (hidT_size _ _), trivial, fun b hb => absurd (show b ∈ ([] : List Addr) from hb) (by simp), hok, .of_eq hg⟩
    refine codeAny_mono ((F _ hKb (nsK hns)).run callerA [] s₁ H ⟨[.ref a], []⟩ [.ref a] [.ref a] _ _ hr e0 (hbind s₁ (.ref a)) (.cons rfl .nil) (hsp H hO hS)) fun r s' h => ?_
    cases r with
    | error e => exact (hCX H e s' h).elim
    | ok fl =>
      cases fl with
      | next => exact False.elim h
      | brk => exact False.elim h
      | cont => exact False.elim h
      | ret u =>
        obtain ⟨v, H', os, bare, un, hok', r', q⟩ := h
        have q' : v = .bl true := q
        subst q'
        obtain rfl : u = Value.bool true := r'
        refine ⟨rfl, OldK.of_keep fun b o e => ?_, os, bare⟩
        cases q : H b with
        | none => exact un.keep b o e q (by intro z; exact absurd (show b ∈ ([] : List Addr) from z) (by simp)) (by simp)
        | some u =>
          rcases hO b with z | ⟨ob, xs, z⟩
          · rw [q] at z; cases z
          · have z2 := un.frzs b ob _ z
            obtain ⟨e1, _⟩ := hok b _ z
            obtain ⟨e2, _⟩ := hok' b _ z2
            rw [e] at e1; cases e1
            exact e2
  cases hk : K.lookup a with
  | some o =>
    -- the script is one of the module's own objects
    have e := KX a o hk
    rw [ha] at e
    cases e
    refine core (fun _ => none) (fun _ => .inl rfl) (.inr ⟨_, vs.toArray, _, hk, rfl, rfl, rfl, by rw [List.size_toArray, lenV]; exact hl, by simpa using rv⟩) (fun b u z => by have z' : (none : Option HO) = some u := z; cases z') (fun b z => absurd rfl z) fun z => absurd rfl z
  | none =>
    refine core (fun b => if b = a then some (.frz { cls := .type "list", data := .seq vs.toArray } (.lst (ns.map V.int))) else none) (fun b => ?_) (.inl (.inr ⟨{ cls := .type "list", data := .seq vs.toArray }, if_pos rfl⟩)) (fun b u z => ?_) (fun b z => ?_) fun _ => hk
    · by_cases hb : b = a
      · exact .inr ⟨_, _, if_pos hb⟩
      · exact .inl (if_neg hb)
    · by_cases hb : b = a
      · have z' := (if_pos hb).symm.trans z
        cases z'
        subst hb
        exact ⟨ha, by rw [List.length_map]; exact hl, vs, _, rv, ha⟩
      · have z' := (if_neg hb).symm.trans z
        cases z'
    · by_cases hb : b = a
      · exact hb
      · exact absurd (if_neg hb) z
end L2
namespace L2
open PySem PySem.Spec PyProof.Rows
theorem walk_of {l : PySem.W.OpenLaw} {n k : Nat} {q : Program} {loose : List Str} {XP : (Str → Option Value) → Heap → Prop} {YP : World → Heap → Prop} {d : DefRec} {K : Params → PySem.W.Frag} {CX : World → CXT} {sp : World → Sp} {x : Str}
    (hn : l.most = some n) (hn2 : n ≤ sizeLine) (hdf : d.params.defaults = []) (hr : Room k callerA)
    (hY : ∀ (w : World) (h : Heap), YP w h → (K w.params).In h)
    (F : ∀ (w : World) (mg : Str → Option Value) (fa : Addr) (h : Heap), (K w.params).In h → h.Ns mainGlobals mg → mg d.name = some (.ref fa) →
      ∃ fd : FuncData, (∀ (s : Shared) (u : Value), BindsTo s fd ⟨[u], []⟩ [(x, u)]) ∧
        ∀ base : Heap, (K w.params).In base → base.Ns mainGlobals mg → FnOk l.prog w (K w.params) mg base (CX w) k fa fd [x] (sp w))
    (hsp : ∀ (w : World) (H : Hp) (a : Addr) (ns : List Int), ns.length ≤ n → Only H → SqL (K w.params) H a (ns.map V.int) → sp w [.ref a] H (fun v _ => v = .bl true) fun _ _ _ => False)
    (hCX : ∀ (w : World) (H : Hp) (s : Shared) (e : Value) (s' : Shared), CX w [] H s (fun _ _ _ => False) e s' → False) :
    PySem.W.WalkO q loose XP YP l.row.toRowW d [] (fun f vs => PySem.call f vs) := by
  refine Att.attach_call hn hdf fun w s₀ s₁ mg mb fa o pm cd doc a vs ns G Y ho hd hcd hmg hobj hints hlen hg => ?_
  have KX := hY w _ Y
  obtain ⟨fd, hb, hF⟩ := F w mg fa _ KX G.T.g hmg
  exact law_call KX G.T.g G.T.b G.T.builtins G.T.nolimit hg hobj hints (Nat.le_trans hlen hn2) hr hF hb (fun H hO hS => hsp w H a ns hlen hO hS) fun H e s' => hCX w H s₁ e s'
end L2
namespace L2
open PySem PySem.Spec PyProof.Rows
def defArgs (s : Stmt) : Arguments := match s with
  | .FunctionDef _ a _ _ _ _ _ _ _ _ => a
  | _ => { posonlyargs := [], args := [], vararg := none, kwonlyargs := [], kw_defaults := [], kwarg := none, defaults := [] }
def defBody (s : Stmt) : List Stmt := match s with
  | .FunctionDef _ _ b _ _ _ _ _ _ _ => b
  | _ => []
def defScope (s : Stmt) : Scope := match s with
  | .FunctionDef _ _ _ _ _ _ sc _ _ _ => sc
  | _ => { kind := .function, names := [], isGenerator := false, isCoroutine := false }
abbrev CX0 : CXT := fun _ _ _ _ _ _ => False
abbrev E0 : XK := fun _ _ _ => False
theorem pass0 {X : Cx} : Passes CX0 X E0 := fun _ _ _ _ _ _ _ h => h.elim
structure Fun (K : PySem.W.Frag) (x qual : Str) (st : Stmt) (f : Addr) (fd : FuncData) : Prop where
  ex : ∃ (oc : Value) (od : Option Addr) (kV doc pm : Value) (an : Option Addr) (cdv ct : Value) (osl : Array (Option Value)),
    fd = PySem.W.fnOf x qual (defArgs st) (defBody st) (defScope st) .none kV doc pm an cdv ct ∧ K.lookup f = some ⟨oc, od, .func fd, osl⟩ ∧ PySem.W.codeIn K cdv qual = true
  kp : PySem.W.keepIn K (.ref f) = true
section
variable {P : Program} {w : World} {K : PySem.W.Frag} {mg : Str → Option Value} {base : Heap}
theorem Fun.ok {x qual : Str} {st : Stmt} {f : Addr} {fd : FuncData} {N ps : List Str} {k : Nat} {sp : Sp} (F : Fun K x qual st f fd) (S : FnScope N ps (defScope st)) (len : ∀ vs H Q E, sp vs H Q E → vs.length = ps.length)
    (hbody : ∀ (cdv : Value) (A : Around) (outer : List Env) (s : Shared) (H : Hp) (vs : List V) (Q : VK) (E : XK), Room k (A.deeper (envOfC qual (defScope st) s.heap.objs.size f cdv)) → sp vs H Q E →
      ∃ t, PSs (cxOf CX0 P w K mg base N qual (defScope st) f cdv A outer s H E).nox (defBody st) t ∧ t { nx := fun _ H' => Q .non H', rt := Q } (start N vs) H) : FnOk P w K mg base CX0 (k + 1) f fd ps sp := by
  obtain ⟨oc, od, kV, doc, pm, an, cdv, ct, osl, rfl, lk, hcd⟩ := F.ex
  refine fn_of lk hcd S len fun A outer s H vs Q E hr hsp => ?_
  obtain ⟨t, h, q⟩ := hbody cdv A outer s H vs Q E hr hsp
  exact ⟨t, h.nox, q⟩
theorem Fun.binds {x qual : Str} {st : Stmt} {f : Addr} {fd : FuncData} {ps : List Str} (F : Fun K x qual st f fd)
    (h : ∀ (kV doc pm : Value) (an : Option Addr) (cdv ct : Value) (us : List Value), us.length = ps.length → bindArgs (PySem.W.fnOf x qual (defArgs st) (defBody st) (defScope st) .none kV doc pm an cdv ct) ⟨us, []⟩ = pure (ps.zip us)) : Binds K fd ps [] := by
  obtain ⟨oc, od, kV, doc, pm, an, cdv, ct, osl, rfl, lk, hcd⟩ := F.ex
  exact .all (h kV doc pm an cdv ct)
theorem fun_mk {x qual : Str} {st : Stmt} {f : Addr} {oc : Value} {od an : Option Addr} {osl : Array (Option Value)} {kV doc pm cdv ct : Value} (l : K.lookup f = some ⟨oc, od, .func (PySem.W.fnOf x qual (defArgs st) (defBody st) (defScope st) .none kV doc pm an cdv ct), osl⟩)
    (c : PySem.W.codeIn K cdv qual = true) (k : PySem.W.keepIn K (.ref f) = true) : Fun K x qual st f (PySem.W.fnOf x qual (defArgs st) (defBody st) (defScope st) .none kV doc pm an cdv ct) := ⟨⟨oc, od, kV, doc, pm, an, cdv, ct, osl, rfl, l, c⟩, k⟩
end
theorem hu_of {A : Around} {k : Nat} (hr : Room k A) : A.units + 1 < cLine := Nat.lt_of_le_of_lt (Nat.add_le_add_left (by decide : 1 ≤ 64) _) hr.units
section
variable {X : Cx}
theorem pv (i : Nat) {x : Str} {pos : Pos} (hN : X.N[i]? = some x := by rfl) (hv : Vis X.env.scope x := by first | exact Or.inl rfl | exact Or.inr (Or.inl rfl) | exact Or.inr (Or.inr rfl)) (hd : (x == ("__debug__" : Str)) = false := by decide)
    (hcd : (x == ("__classdict__" : Str)) = false := by decide) : PE X (.Name x pos) (tVar i) := pe_var hN hv hd hcd
end
theorem iteF {A B : Prop} (h : B) : if false = true then A else B := by
  rw [if_neg Bool.false_ne_true]
  exact h
theorem iteT {A B : Prop} (h : A) : if true = true then A else B := by
  rw [if_pos rfl]
  exact h
theorem ite2 {c A B : Prop} [Decidable c] (h1 : c → A) (h2 : ¬ c → B) : if c then A else B := by
  by_cases h : c
  · rw [if_pos h]
    exact h1 h
  · rw [if_neg h]
    exact h2 h
def Same (H H' : Hp) : Prop := ∀ b o, H b = some o → H' b = some o
theorem Same.refl (H : Hp) : Same H H := fun _ _ h => h
theorem Same.trans {H H1 H2 : Hp} (a : Same H H1) (b : Same H1 H2) : Same H H2 := fun c o h => b c o (a c o h)
theorem Same.free {H H' : Hp} (e : Same H H') {l : Addr} (h : H' l = Option.none) : H l = Option.none := by
  cases q : H l with
  | none => rfl
  | some o =>
    rw [e l o q] at h
    cases h
theorem Same.seq {K : PySem.W.Frag} {H H' : Hp} {a : Addr} {xs : List V} (e : Same H H') (h : SqL K H a xs) : SqL K H' a xs := by
  rcases h with (h | ⟨o, h⟩) | h
  · exact .inl (.inl (e _ _ h))
  · exact .inl (.inr ⟨o, e _ _ h⟩)
  · exact .inr h
end L2
namespace L2
open PySem
theorem closure_aux {env : Env} : ∀ (names : List (Str × NameKind)) (init : List (Str × Addr)), (∀ n k, (n, k) ∈ names → k = .free → ∃ c, env.cells.lookup n = some c) →
    (∀ n c, init.lookup n = some c → env.cells.lookup n = some c) →
    ∃ cl, (forIn names init fun (x : Str × NameKind) (cs : List (Str × Addr)) => (match x with
      | (name, kind) => if (kind == NameKind.free) = true then (do let a ← cellOf env name; pure (ForInStep.yield ((name, a) :: cs))) else pure (ForInStep.yield cs) : Sem (ForInStep (List (Str × Addr))))) = (pure cl : Sem (List (Str × Addr))) ∧
      (∀ n c, cl.lookup n = some c → env.cells.lookup n = some c) ∧ (∀ n, (n, NameKind.free) ∈ names ∨ (∃ c, init.lookup n = some c) → ∃ c, cl.lookup n = some c)
  | [], init, _, h1 => ⟨init, rfl, h1, fun n h => by rcases h with h | h; cases h; exact h⟩
  | (nm, k) :: r, init, h0, h1 => by
    by_cases hk : k = .free
    · obtain ⟨c, hc⟩ := h0 nm k List.mem_cons_self hk
      have h1' : ∀ n c', ((nm, c) :: init).lookup n = some c' → env.cells.lookup n = some c' := fun n c' e => by
        rw [List.lookup_cons] at e
        split at e
        · rename_i he
          have : n = nm := by simpa using he
          subst this; cases e; exact hc
        · exact h1 n c' e
      obtain ⟨cl, e1, e2, e3⟩ := closure_aux r ((nm, c) :: init) (fun n k' hm => h0 n k' (List.mem_cons_of_mem _ hm)) h1'
      refine ⟨cl, ?_, e2, fun n hn => e3 n ?_⟩
      · rw [List.forIn_cons]
        subst hk
        have : cellOf env nm = pure c := by unfold cellOf; rw [hc]
        simp only [this]
        exact e1
      · rcases hn with hn | ⟨c', hn⟩
        · rcases List.mem_cons.mp hn with e | e
          · cases e
            exact .inr ⟨c, by simp [List.lookup_cons]⟩
          · exact .inl e
        · right
          rw [List.lookup_cons]
          split
          · exact ⟨_, rfl⟩
          · exact ⟨c', hn⟩
    · obtain ⟨cl, e1, e2, e3⟩ := closure_aux r init (fun n k' hm => h0 n k' (List.mem_cons_of_mem _ hm)) h1
      refine ⟨cl, ?_, e2, fun n hn => e3 n ?_⟩
      · rw [List.forIn_cons]
        have : (k == NameKind.free) = false := by simpa using hk
        simp only [this]
        exact e1
      · rcases hn with hn | hn
        · rcases List.mem_cons.mp hn with e | e
          · cases e; exact absurd rfl hk
          · exact .inl e
        · exact .inr hn
theorem closure_some {scope : Scope} {env : Env} (h : ∀ n, (n, NameKind.free) ∈ scope.names → ∃ c, env.cells.lookup n = some c) :
    ∃ cl, closureFor scope env = pure cl ∧ (∀ n c, cl.lookup n = some c → env.cells.lookup n = some c) ∧ (∀ n, (n, NameKind.free) ∈ scope.names → ∃ c, cl.lookup n = some c) := by
  obtain ⟨cl, e1, e2, e3⟩ := closure_aux (env := env) scope.names [] (fun n k hm hk => h n (hk ▸ hm)) (fun n c e => by cases e)
  refine ⟨cl, ?_, e2, fun n hn => e3 n (.inl hn)⟩
  have e : closureFor scope env = ((forIn scope.names ([] : List (Str × Addr)) fun (x : Str × NameKind) (cs : List (Str × Addr)) => (match x with
      | (name, kind) => if (kind == NameKind.free) = true then (do let a ← cellOf env name; pure (ForInStep.yield ((name, a) :: cs))) else pure (ForInStep.yield cs) : Sem (ForInStep (List (Str × Addr))))) >>= fun r => pure r) := rfl
  rw [e, e1]
  rfl
end L2
namespace L2
open PySem PySem.Spec PyProof.Rows
section
variable {X : Cx} {pins : List (Addr × Obj)} {σ : St} {H : Hp} {s : Shared}
theorem Inv.track {p : Addr} {o : HO} (I : Inv X pins σ H s) (f : FpOk X pins H p) (new : ObjOk X.prog X.w (upd H p o) s.heap p o) : Inv X pins σ (upd H p o) s := by
  obtain ⟨f0, f1, f2, f3, f4, f5⟩ := f
  have nit : ∀ b u, H b = some u → b ≠ p := fun b u e z => by rw [z, f0] at e; cases e
  refine I.step (h' := s.heap) (g' := s.gens) (d' := s.drawn) (t' := s.toks) (ch := [p]) (fun b hb => ?_) (fun b o _ _ _ e _ => e) (fun b o _ _ _ e _ => ⟨o.slots, e⟩)
    (fun b o hc e n => by rw [upd_ne (fun z => hc (by simp [z]))]; exact n) (fun b o _ e => ⟨o, e⟩) (fun b xs e => by rw [upd_ne (nit b _ e)]; exact e) (fun b o u e => by rw [upd_ne (nit b _ e)]; exact e)
    (fun b ps e => ⟨#[], by rw [upd_ne (nit b _ e), e]; simp⟩) (fun m hm => hm) (fun b u e => ?_) I.bare
  · have e : b = p := by simpa using hb
    subst e
    exact ⟨f3, f1, f4, f5⟩
  · by_cases hb : b = p
    · subst hb; rw [upd_same] at e; cases e; exact new
    · rw [upd_ne hb] at e
      exact (I.hok b u e).stay (fun c v _ q => q) (fun c q => by rw [upd_ne (nit c _ q)]; exact q) fun c xs q => by rw [upd_ne (nit c _ q)]; exact q
end
section
variable {prog : Program} {w : World} {A : Around} {R : Result → Shared → Prop} {s : Shared}
theorem compLoop_any {elt target iter : Expr} {ifs : List Expr} {scope : Scope} {pos : Pos} {it acc : Value} {env : Env} (I : Nat → Shared → Prop)
    (turn : ∀ n s, I n s → wpAny (model prog w) A (pyNext it) (fun r s₁ => match r with
      | none => R (.ok .next) s₁
      | some v => wpAny (model prog w) A (letOwnedTupleGo target it v) (fun _ s₁' => wpAny (model prog w) A (assign target env v) (fun _ s₂ =>
          wpAny (model prog w) A (forIn ifs true fun c r => if r = true then do let ok ← isTrue c env (eval c env); pure (ForInStep.yield ok) else pure (ForInStep.yield r)) (fun ok s₃ =>
            if ok = true then wpAny (model prog w) A (eval elt env) (fun x s₄ =>
              wpAny (model prog w) A (call (.builtin "list.append") [acc, x]) (fun _ s₅ => ∃ m, m < n ∧ I m s₅) (fun _ _ => False) s₄) (fun _ _ => False) s₃
            else ∃ m, m < n ∧ I m s₃) (fun _ _ => False) s₂) (fun _ _ => False) s₁') (fun _ _ => False) s₁) (fun _ _ => False) s)
    (n : Nat) (h : I n s) : codeAny (model prog w) A (.compLoop (.ListComp elt [⟨target, iter, ifs, 0⟩] scope pos) 0 it acc env) R s := by
  refine codeAny_loop rfl I (fun n s hI => ?_) n h
  show wpAny _ A ((compTurn (.ListComp elt [⟨target, iter, ifs, 0⟩] scope pos) 0 it acc env).onRaise (fun x => do noteFrame x env; theTreesLotGoes x)) _ _ s
  refine wpAny_noted (wpAny_noRaise ?_)
  rw [compTurn_list]
  refine wpAny_bind (wpAny_standAt (wpAny_bind (wpAny_mono (turn n s hI) (fun r s₁ h₁ => ?_) fun _ _ h' => h')))
  cases r with
  | none => exact wpAny_pure h₁
  | some v =>
    refine wpAny_bind (wpAny_mono h₁ (fun _ s₁' h₁' => ?_) fun _ _ h' => h')
    refine wpAny_bind (wpAny_mono h₁' (fun _ s₂ h₂ => wpAny_bind (wpAny_mono h₂ (fun ok s₃ h₃ => ?_) fun _ _ h' => h')) fun _ _ h' => h')
    cases ok with
    | false => exact wpAny_pure ⟨rfl, h₃⟩
    | true =>
      exact wpAny_bind (wpAny_bind (wpAny_mono h₃ (fun x s₄ h₄ => wpAny_bind (wpAny_mono h₄ (fun _ s₅ h₅ => wpAny_pure (wpAny_pure ⟨rfl, h₅⟩)) fun _ _ h' => h')) fun _ _ h' => h'))
end
def blk (X : Cx) (N : List Str) (scope : Scope) (cl : List (Str × Addr)) (C : Addr) (s : Shared) (H : Hp) (fp : List Addr) : Cx :=
  { X with N := N, s₀ := s, H₀ := H, env := compEnvC scope cl C X.env, outer := X.stack, ex := fp, fn := fun _ => false, pn := [], xe := fun _ _ => False }
def PTs (X : Cx) (ifs : List Expr) (t : TT) : Prop :=
  ∀ (pins : List (Addr × Obj)) (s : Shared) (σ : St) (H : Hp) (Q : Bool → Hp → Prop), Inv X pins σ H s → t σ H Q →
    wpAny (model X.prog X.w) X.A (forIn ifs true fun c r => if r = true then do let ok ← isTrue c X.env (eval c X.env); pure (ForInStep.yield ok) else pure (ForInStep.yield r)) (TP X pins σ Q) X.xe s
def tYes : TT := fun _ H Q => Q true H
theorem pts_nil {X : Cx} : PTs X [] tYes := fun _ _ _ H _ I h => wpAny_tests_nil ⟨H, I, h⟩
theorem pts_one {X : Cx} {c : Expr} {t : TT} (h : PT X c t) : PTs X [c] t := fun pins s σ H Q I hw => wpAny_tests_one (h pins s σ H Q I hw)
def capSt (nt : Nat) (caps : List Nat) (σ : St) : St := List.replicate nt none ++ caps.map fun j => (σ[j]?).join
def GKeep (nt : Nat) (g : TG) : Prop := ∀ (v : V) (cs : St) (H : Hp) (Q : St → Hp → Prop), g v (List.replicate nt none ++ cs) H Q →
  g v (List.replicate nt none ++ cs) H fun σ' H' => (∀ (j : Nat) (u : V), (List.replicate nt none ++ cs)[j]? = some (some u) → σ'[j]? = some (some u)) ∧ Q σ' H'
theorem gk_name : GKeep 1 (gName 0) := by
  intro v cs H Q h
  refine ⟨fun j u e => ?_, h⟩
  cases j with
  | zero => simp at e
  | succ j => simpa using e
def tComp (nt : Nat) (caps : List Nat) (wi : TI) (g : TG) (tt : TT) (te : TE) : TE := fun σ H Q => wi σ H fun J H1 =>
  ∃ W : Nat → Nat → List V → Hp → Prop, (∃ m, W 0 m [] H1) ∧ ∀ i m ys H2, W i m ys H2 →
    (J.stop i H2 ∧ ys.length ≤ sizeLine ∧ ∀ p, H2 p = none → Q (.ref p) (upd H2 p (.lst ys))) ∨
    (J.go i H2 ∧ ys.length < sizeLine ∧ ∀ x H3, J.yld i H2 x H3 → g x (capSt nt caps σ) H3 fun σ4 H4 => tt σ4 H4 fun b H5 =>
      if b = true then te σ4 H5 fun y H6 => ∃ m', m' < m ∧ W (i + 1) m' (ys ++ [y]) H6 else ∃ m', m' < m ∧ W (i + 1) m' ys H5)
structure CompOk (X : Cx) (N : List Str) (nt : Nat) (caps : List Nat) (scope : Scope) : Prop where
  cell : ∀ y ∈ scope.names, y.2 ≠ .cell
  kind : scope.kind = .function
  names : ∀ x ∈ scope.names, x.2 = .local → scope.names.lookup x.1 = some .local
  free : ∀ n, (n, NameKind.free) ∈ scope.names → X.env.kindOf n = some .cell ∨ X.env.kindOf n = some .free
  cap : ∀ (j i : Nat), caps[j]? = some i → ∃ x, X.N[i]? = some x ∧ N[nt + j]? = some x ∧ (x, NameKind.free) ∈ scope.names ∧ scope.names.lookup x = some .free
  len : N.length = nt + caps.length
theorem lookup_keyed {α : Type} (f : Str × α → Str × α) (hf : ∀ p, (f p).1 = p.1) : ∀ (l : List (Str × α)) (x : Str), (l.map f).lookup x = (l.lookup x).map fun k => (f (x, k)).2
  | [], _ => rfl
  | (n, k) :: r, x => by
    have ih := lookup_keyed f hf r x
    have e : f (n, k) = (n, (f (n, k)).2) := Prod.ext (hf (n, k)) rfl
    rw [List.map_cons, e, List.lookup_cons, List.lookup_cons]
    split
    · rename_i h
      have : x = n := by simpa using h
      subst this
      rfl
    · exact ih
theorem lookup_mem {α : Type} : ∀ {l : List (Str × α)} {x : Str} {k : α}, l.lookup x = some k → (x, k) ∈ l
  | [], _, _, h => by cases h
  | (n, q) :: r, x, k, h => by
    rw [List.lookup_cons] at h
    split at h
    · rename_i e
      have : x = n := by simpa using e
      subst this
      cases h
      exact List.mem_cons_self
    · exact List.mem_cons_of_mem _ (lookup_mem h)
theorem relabel_kind {scope : Scope} {env : Env} {x : Str} (hc : ∀ y ∈ scope.names, y.2 ≠ .cell) {k : NameKind} (h : (relabel scope env).names.lookup x = some k) (hk : k = .cell ∨ k = .free) : (x, NameKind.free) ∈ scope.names := by
  unfold relabel at h
  dsimp only at h
  rw [lookup_keyed _ (fun p => by obtain ⟨n, k⟩ := p; dsimp only; split <;> rfl)] at h
  cases hl : scope.names.lookup x with
  | none => rw [hl] at h; cases h
  | some q =>
    rw [hl] at h
    have m := lookup_mem hl
    by_cases hq : q = .free
    · rw [← hq]; exact m
    · exfalso
      have hb : (q == NameKind.free) = false := by simpa using hq
      simp only [Option.map_some, hb, Bool.false_and, Bool.false_eq_true, if_false, Option.some.injEq] at h
      rcases hk with z | z
      · exact hc _ m (h.trans z)
      · exact hq (h.trans z)
theorem relabel_free {scope : Scope} {env : Env} {x : Str} (h : scope.names.lookup x = some .free) : (relabel scope env).names.lookup x ≠ some .local := by
  intro q
  unfold relabel at q
  dsimp only at q
  rw [lookup_keyed _ (fun p => by obtain ⟨n, k⟩ := p; dsimp only; split <;> rfl), h] at q
  dsimp only [Option.map] at q
  split at q <;> cases q
def compOkB (sc : Scope) (NX N : List Str) (nt : Nat) (caps : List Nat) (scope : Scope) : Bool :=
  scope.names.all (fun y => !(y.2 == .cell)) && scope.kind == .function && scope.names.all (fun y => !(y.2 == .local) || scope.names.lookup y.1 == some .local)
  && scope.names.all (fun y => !(y.2 == .free) || sc.names.lookup y.1 == some .cell || sc.names.lookup y.1 == some .free)
  && (List.range caps.length).all (fun j => match NX[caps.getD j 0]? with
    | some x => N[nt + j]? == some x && scope.names.any (fun y => y.1 == x && y.2 == .free) && scope.names.lookup x == some .free
    | none => false)
  && N.length == nt + caps.length
theorem comp_ok {X : Cx} {N : List Str} {nt : Nat} {caps : List Nat} {scope : Scope} (h : compOkB X.env.scope X.N N nt caps scope = true := by rfl) : CompOk X N nt caps scope := by
  unfold compOkB at h
  simp only [Bool.and_eq_true, List.all_eq_true, Bool.or_eq_true, Bool.not_eq_true', beq_iff_eq, beq_eq_false_iff_ne, ne_eq] at h
  obtain ⟨⟨⟨⟨⟨h1, h2⟩, h3⟩, h4⟩, h5⟩, h6⟩ := h
  refine ⟨fun y hy => h1 y hy, h2, fun y hy e => (h3 y hy).resolve_left fun z => z e, fun n hn => ?_, fun j i e => ?_, h6⟩
  · rcases h4 (n, .free) hn with (z | z) | z
    · exact absurd rfl z
    · exact .inl z
    · exact .inr z
  · obtain ⟨hj, e'⟩ := List.getElem?_eq_some_iff.mp e
    have q := h5 j (List.mem_range.mpr hj)
    have eg : caps.getD j 0 = i := by rw [List.getD_eq_getElem?_getD, e]; rfl
    rw [eg] at q
    cases hx : X.N[i]? with
    | none => rw [hx] at q; cases q
    | some x =>
      rw [hx] at q
      simp only [Bool.and_eq_true, beq_iff_eq, List.any_eq_true] at q
      obtain ⟨⟨q1, y, hy, e1, e2⟩, q3⟩ := q
      refine ⟨x, rfl, q1, ?_, q3⟩
      obtain ⟨n, k⟩ := y
      cases e1; cases e2
      exact hy
section
variable {X : Cx} {tg iter elt : Expr} {ifs : List Expr} {scope : Scope} {pos : Pos} {N : List Str} {nt : Nat} {caps : List Nat} {wi : TI} {g : TG} {tt : TT} {te : TE} {cl : List (Str × Addr)}
theorem comp_run {pins : List (Addr × Obj)} {σ : St} {H : Hp} {s : Shared} {it : Addr} {fp : List Addr} {tn : Nat → Heap → Prop} {J : It} {RR : Value → Addr → Result → Shared → Prop} {E : Value → Shared → Prop}
    (ok : CompOk X N nt caps scope) (hc : X.calm = true) (h1 : ∀ n c, cl.lookup n = some c → X.env.cells.lookup n = some c) (h2 : ∀ n, (n, NameKind.free) ∈ scope.names → ∃ c, cl.lookup n = some c)
    (hg : ∀ cl C s H fp, PG (blk X N scope cl C s H fp) tg g) (hgk : GKeep nt g) (ht : ∀ cl C s H fp, PTs (blk X N scope cl C s H fp) ifs tt) (he : ∀ cl C s H fp, PE (blk X N scope cl C s H fp) elt te)
    (I : Inv X pins σ H s) (T : Turn X.prog X.w X.K tg J fp it tn) (st : tn 0 s.heap) (hf : ∀ b ∈ fp, FpOk X pins H b)
    (W : Nat → Nat → List V → Hp → Prop) (Z : List V → Hp → Prop) (m0 : Nat) (w0 : W 0 m0 [] H)
    (turn : ∀ i m ys H2, W i m ys H2 → (J.stop i H2 ∧ Z ys H2) ∨
      (J.go i H2 ∧ ys.length < sizeLine ∧ ∀ x H3, J.yld i H2 x H3 → g x (capSt nt caps σ) H3 fun σ4 H4 => tt σ4 H4 fun b H5 =>
        if b = true then te σ4 H5 fun y H6 => ∃ m', m' < m ∧ W (i + 1) m' (ys ++ [y]) H6 else ∃ m', m' < m ∧ W (i + 1) m' ys H5))
    (hRR : ∀ (C : Addr) (s' : Shared) (ys : List V) (its : List Value) (n : Nat) (H' : Hp), s.heap.objs.size < C → Vals ys its → Inv (blk X N scope cl C s H fp) [] (capSt nt caps σ) H' s' →
      s'.heap.get? s.heap.objs.size = some { cls := .type "list", data := .seq its.toArray n } → H' s.heap.objs.size = none → Z ys H' → RR (.ref s.heap.objs.size) C (.ok .next) s') :
    wpAny (model X.prog X.w) X.A (newList []) (fun acc s₃ => wpAny (model X.prog X.w) X.A (newFunctionEnv scope X.env.globals cl [] X.env.qual none .none (some X.env)) (fun cenv s₄ =>
      codeAny (model X.prog X.w) X.A (.compStart (.ListComp elt [⟨tg, iter, ifs, 0⟩] scope pos) 0 (.ref it) acc { cenv with scope := relabel scope X.env }) (RR acc cenv.locals) s₄) E s₃) E s := by
  refine wpAny_newObj_type (wpAny_newFunctionEnv ok.cell (by intro y hy; simp at hy) (fun h₁ hns₁ hsb₁ => ?_) ok.kind)
  dsimp only at hns₁ hsb₁ ⊢
  generalize hG : s.heap.push { cls := .type "list", dict := none, data := .seq ([] : List Value).toArray } = G at hns₁ hsb₁ ⊢
  have hC : G.objs.size = s.heap.objs.size + 1 := by rw [← hG, Heap.size_push]
  have hDC : s.heap.objs.size ≠ G.objs.size := by rw [hC]; exact Nat.ne_of_lt (Nat.lt_succ_self _)
  have hlt : s.heap.objs.size < G.objs.size := by rw [hC]; exact Nat.lt_succ_self _
  have old : ∀ b o, s.heap.get? b = some o → h₁.get? b = some o := fun b o e =>
    hsb₁.extBut b o (Nat.ne_of_lt (Nat.lt_trans (Heap.lt_size e) hlt)) (Heap.get?_push_of_some _ (hG ▸ Heap.get?_push_of_some _ e))
  have hacc : h₁.get? s.heap.objs.size = some { cls := .type "list", data := .seq ([] : List Value).toArray 0 } := hsb₁.extBut _ _ hDC (Heap.get?_push_of_some _ (hG ▸ Heap.get?_push_size _ rfl))
  have fpD : ∀ b ∈ fp, b < s.heap.objs.size := fun b hb => by
    obtain ⟨o, e, _⟩ := T.obj _ _ st b hb
    exact Heap.lt_size e
  have celt : ∀ n c, cl.lookup n = some c → c < s.heap.objs.size := fun n c e => by
    obtain ⟨v, q⟩ := I.cell n c (h1 n c e)
    exact q.lt
  have YOk : (blk X N scope cl G.objs.size s H fp).Ok := by
    refine ⟨I.ok.mod, ok.kind, I.ok.glob, I.ok.blt, Nat.le_of_lt hlt, fun x y c e e' => I.ok.inj x y c (h1 x c e) (h1 y c e'), fun x hx => ?_, fun x c hx _ => (nomatch hx), I.ok.hd, I.ok.frames, .inl rfl,
      fun b hb => ⟨Nat.ne_of_lt (Nat.lt_trans (fpD b hb) hlt), fun x c e z => ?_⟩, fun b o e => I.bs b o e, Nat.le_trans I.ok.bsz I.sz, fun b o e hb => ?_, fun b hb hz => ?_, I.stack, I.stkFree⟩
    · rcases hx with hx | hx
      · exact h2 x (relabel_kind ok.cell hx (.inl rfl))
      · exact h2 x (relabel_kind ok.cell hx (.inr rfl))
    · exact (hf b hb).2.2.2.2.1 x c (h1 x c e) z
    · rcases (hf b hb).2.2.2.1 with z | z
      · exact I.ok.noex b o e z
      · exact absurd (Nat.lt_of_lt_of_le (Heap.lt_size e) (Nat.le_trans I.ok.bsz z)) (Nat.lt_irrefl _)
    · rcases List.mem_cons.mp (I.stkSub b hz) with z | z
      · exact (hf b hb).2.1 z
      · exact (hf b hb).2.2.1 z
  have lenb : (capSt nt caps σ).length = N.length := by rw [ok.len]; simp [capSt]
  have IY : Inv (blk X N scope cl G.objs.size s H fp) [] (capSt nt caps σ) H { s with heap := h₁, toks := s.toks + ([] : List (Str × Value)).length } := by
    refine ⟨YOk, rfl, I.bare, Un.kept old, ⟨_, hns₁, fun i x v e1 e2 e3 => ?_⟩, fun x c e => ?_, I.hok.fresh (Nat.le_of_lt hlt), fun x c e => I.freeC x c (h1 x c e), fun p hp => (nomatch hp), I.hok.kept old, lenb⟩
    · have hi : nt ≤ i := by
        rcases Nat.lt_or_ge i nt with z | z
        · exfalso
          unfold capSt at e2
          rw [List.getElem?_append_left (by simpa using z), List.getElem?_replicate] at e2
          split at e2 <;> cases e2
        · exact z
      unfold capSt at e2
      rw [List.getElem?_append_right (by simpa using hi), List.length_replicate, List.getElem?_map] at e2
      cases ej : caps[i - nt]? with
      | none => rw [ej] at e2; cases e2
      | some j =>
        rw [ej] at e2
        have e2' : (σ[j]?).join = some v := by simpa using e2
        have e2'' : σ[j]? = some (some v) := by
          cases q : σ[j]? with
          | none => rw [q] at e2'; cases e2'
          | some z => rw [q] at e2'; simp at e2'; rw [e2']
        obtain ⟨y, y1, y2, y3, y4⟩ := ok.cap _ _ ej
        have : nt + (i - nt) = i := by omega
        rw [this] at y2
        have e1' : N[i]? = some x := e1
        rw [e1'] at y2
        cases y2
        obtain ⟨m, hn, hl⟩ := I.loc
        have kx := ok.free x y3
        have vx : Vis X.env.scope x := by
          rcases kx with z | z
          · exact .inr (.inl z)
          · exact .inr (.inr z)
        obtain ⟨u, r, l⟩ := hl j x v y1 e2'' vx
        refine ⟨u, r, .inr ⟨?_, ?_⟩⟩
        · rcases e3 with z | z | z
          · exact absurd z (relabel_free y4)
          · exact .inl z
          · exact .inr z
        · obtain ⟨c, hcl⟩ := h2 x y3
          refine ⟨c, hcl, ?_⟩
          rcases l with ⟨k, _⟩ | ⟨_, c', hc', o, ho, hd⟩
          · rcases kx with z | z <;> (rw [z] at k; cases k)
          · have : c = c' := Option.some.inj ((h1 x c hcl).symm.trans hc')
            subst this
            exact ⟨o, old c o ho, hd⟩
    · obtain ⟨v, o, ho, hd⟩ := I.cell x c (h1 x c e)
      exact ⟨v, o, old c o ho, hd⟩
  -- the loop
  have stat : ∀ {pn : List (Addr × Obj)} {H' : Hp}, (∀ b ∈ fp, H' b = none) → (∀ p ∈ pn, s.heap.objs.size ≤ p.1) → ∀ b ∈ fp, FpOk (blk X N scope cl G.objs.size s H fp) pn H' b := fun {pn H'} hn hpn b hb =>
    ⟨hn b hb, Nat.ne_of_lt (Nat.lt_trans (fpD b hb) hlt), fun hz => (YOk.exfs b hb hz).elim, .inl hb, fun x c e z => (hf b hb).2.2.2.2.1 x c (h1 x c e) z, fun p hp z => by
      have hp' : p ∈ pn := by simpa [blk] using hp
      have := hpn p hp'
      rw [z] at this
      exact absurd (Nat.lt_of_lt_of_le (fpD b hb) this) (Nat.lt_irrefl _)⟩
  have hDf : s.heap.objs.size ∉ fp := fun hm => Nat.lt_irrefl _ (fpD _ hm)
  have hDs : s.heap.objs.size ∉ frs X.stack := fun hm => by
    rcases List.mem_cons.mp (I.stkSub _ hm) with z | z
    · exact absurd I.lt (by rw [← z]; exact Nat.lt_irrefl _)
    · exact I.nofs (Nat.le_refl _) z
  have loop : ∀ s₃ : Shared, s₃ = { s with heap := h₁, toks := s.toks + ([] : List (Str × Value)).length } →
      codeAny (model X.prog X.w) X.A (.compLoop (.ListComp elt [⟨tg, iter, ifs, 0⟩] scope pos) 0 (.ref it) (.ref s.heap.objs.size) (compEnvC scope cl G.objs.size X.env)) (RR (.ref s.heap.objs.size) G.objs.size) s₃ := by
    rintro s₃ rfl
    refine compLoop_any (fun n s' => ∃ i ys its k H', Inv (blk X N scope cl G.objs.size s H fp) [] (capSt nt caps σ) H' s' ∧ tn i s'.heap ∧ (∀ b ∈ fp, H' b = none) ∧ Vals ys its ∧
      s'.heap.get? s.heap.objs.size = some { cls := .type "list", data := .seq its.toArray k } ∧ H' s.heap.objs.size = none ∧ ys.length ≤ sizeLine ∧ W i n ys H') ?_ m0
      ⟨0, [], [], 0, H, IY, T.keep _ _ _ st fun b hb o e => old b o e, fun b hb => (hf b hb).1, .nil, hacc, I.hok.fresh (Nat.le_refl _), Nat.zero_le _, w0⟩
    rintro n s3 ⟨i, ys, its, k, H3, I3, st3, fr3, v3, a3, n3, z3, w3⟩
    have I3p : Inv (blk X N scope cl G.objs.size s H fp) [(s.heap.objs.size, { cls := .type "list", data := .seq its.toArray k })] (capSt nt caps σ) H3 s3 := I3.pins_of fun p hp => by
      have e : p = (s.heap.objs.size, { cls := .type "list", data := .seq its.toArray k }) := by simpa using hp
      subst e
      exact ⟨a3, n3, hDC, hDs, fun v z => by cases z⟩
    have pn3 : ∀ p ∈ [(s.heap.objs.size, ({ cls := .type "list", data := .seq its.toArray k } : Obj))], s.heap.objs.size ≤ p.1 := fun p hp => by
      have e : p = (s.heap.objs.size, { cls := .type "list", data := .seq its.toArray k }) := by simpa using hp
      subst e
      exact Nat.le_refl _
    rcases turn i n ys H3 w3 with ⟨stop, zz⟩ | ⟨go, hlen, step⟩
    · refine thn (T.done (blk X N scope cl G.objs.size s H fp) rfl rfl rfl hc i _ s3 _ H3 _ I3p (stat fr3 pn3) st3 stop) fun r s4 ⟨hr, I4⟩ => ?_
      subst hr
      have a4 := I4.pin (s.heap.objs.size, { cls := .type "list", data := .seq its.toArray k }) (List.mem_append_right _ (by simp))
      exact hRR _ s4 ys its k H3 hlt v3 (I4.pins_of fun _ hp => nomatch hp) a4.1 n3 zz
    · refine thn (T.item (blk X N scope cl G.objs.size s H fp) rfl rfl rfl hc i _ s3 _ H3 _ I3p (stat fr3 pn3) st3 go) fun r s4 ⟨u, hr, h4⟩ => ?_
      subst hr
      refine thn h4 fun _ s5 ⟨x, H5, I5, r5, y5, st5, fr5⟩ => ?_
      have I5' := I5.pinned (stat fr5 pn3) (T.obj _ _ st5)
      refine thn (hg _ _ _ _ _ _ s5 _ H5 x u _ I5' r5 (hgk _ _ _ _ (step x H5 y5))) fun _ s6 ⟨σ6, H6, I6, kp6, q6⟩ => ?_
      refine thn (ht _ _ _ _ _ _ s6 σ6 H6 _ I6 q6) fun b s7 ⟨H7, I7, q7⟩ => ?_
      have back : ∀ {H8 : Hp} {s8 : Shared}, Inv (blk X N scope cl G.objs.size s H fp) ([(s.heap.objs.size, ({ cls := .type "list", data := .seq its.toArray k } : Obj))] ++ pinsAt fp s5.heap) σ6 H8 s8 →
          Inv (blk X N scope cl G.objs.size s H fp) [] (capSt nt caps σ) H8 s8 ∧ tn (i + 1) s8.heap ∧ (∀ b ∈ fp, H8 b = none) ∧ s8.heap.get? s.heap.objs.size = some { cls := .type "list", data := .seq its.toArray k } ∧ H8 s.heap.objs.size = none := fun {H8 s8} I8 => by
        have a8 := I8.pin (s.heap.objs.size, { cls := .type "list", data := .seq its.toArray k }) (List.mem_append_right _ (List.mem_append_left _ (by simp)))
        refine ⟨(I8.pins_of (pins' := []) fun _ hp => absurd hp (by simp)).weak (by rw [lenb, I8.len]; rfl) kp6, T.keep _ _ _ st5 fun b hb o e => (I8.pin (b, o) (List.mem_append_right _ (List.mem_append_right _ (mem_pinsAt hb e)))).1, fun b hb => ?_, a8.1, a8.2.1⟩
        obtain ⟨o, e, d⟩ := T.obj _ _ st5 b hb
        exact (I8.pin (b, o) (List.mem_append_right _ (List.mem_append_right _ (mem_pinsAt hb e)))).2.1
      cases b with
      | false =>
        rw [if_neg (by intro z; cases z)] at q7 ⊢
        obtain ⟨m', hm, w7⟩ := q7
        obtain ⟨b1, b2, b3, b4, b5⟩ := back I7
        exact ⟨m', hm, i + 1, ys, its, k, H7, b1, b2, b3, v3, b4, b5, z3, w7⟩
      | true =>
        rw [if_pos rfl] at q7 ⊢
        refine thn (he _ _ _ _ _ _ s7 σ6 H7 _ I7 q7) fun u8 s8 ⟨y, H8, I8, r8, m', hm, w8⟩ => ?_
        obtain ⟨b1, b2, b3, b4, b5⟩ := back I8
        have hl := v3.length
        refine call_meets F.slot_list_append ⟨_, b4, rfl⟩ F.entry_list_append (F.args_list_append_2 _ _) (PySem.list_append s.heap.objs.size its.toArray k u8 (by rw [List.size_toArray]; omega)) ⟨b4, ?_⟩
        have q := PySem.IsL.update (show PySem.IsL s8.heap s.heap.objs.size its.toArray k from b4) (fun x => x.push u8)
        have eq : its.toArray.push u8 = (its ++ [u8]).toArray := by simp
        rw [eq] at q
        have keep : ∀ b' o, b' ≠ s.heap.objs.size → s8.heap.get? b' = some o → (s8.heap.update s.heap.objs.size (Obj.mapSeq fun x => x.push u8)).get? b' = some o := fun b' o hb hu =>
          (Heap.get?_update_other s8.heap (Obj.mapSeq fun x => x.push u8) (Ne.symm hb)).trans hu
        refine ⟨m', hm, i + 1, ys ++ [y], its ++ [u8], _, H8, b1.turned (t' := s8.toks) keep b5 hDC (.inr (Nat.le_refl _)) (fun x c e z => ?_) (fun p hp => by simp [blk] at hp), T.keep _ _ _ b2 fun b hb o e => keep b o (fun z => hDf (z ▸ hb)) e, b3,
          v3.append (.cons r8 .nil), q, b5, ?_, w8⟩
        · exact absurd (celt x c e) (by rw [z]; exact Nat.lt_irrefl _)
        · rw [List.length_append, List.length_singleton]; omega
  exact codeAny_compStart_list (loop _ rfl) (T.self _ 0 _ _ _ (T.keep _ _ _ st fun b hb o e => old b o e) (loop _ rfl))
theorem comp_back {pins : List (Addr × Obj)} {σ : St} {H H' : Hp} {s s' : Shared} {fp : List Addr} {C : Addr} {ys : List V} {its : List Value} {n : Nat} {σb : St} {h' : Heap}
    (I : Inv X pins σ H s) (hf : ∀ b ∈ fp, FpOk X pins H b) (hC : s.heap.objs.size < C) (v : Vals ys its) (hz : ys.length ≤ sizeLine) (IY : Inv (blk X N scope cl C s H fp) [] σb H' s')
    (e : s'.heap.get? s.heap.objs.size = some { cls := .type "list", data := .seq its.toArray n }) (en : H' s.heap.objs.size = none) (hs : ∀ b o, b ≠ C → s'.heap.get? b = some o → h'.get? b = some o) :
    Inv X pins σ (upd H' s.heap.objs.size (.lst ys)) { s' with heap := h' } := by
  have hCn : H' C = none := IY.free
  have hok : HOk X.prog X.w H' h' := fun b u q => by
    have nC : ∀ c u', H' c = some u' → c ≠ C := fun c u' q' z => by rw [z, hCn] at q'; cases q'
    refine (IY.hok b u q).stay (fun c w' hc q' => hs c w' ?_ q') (fun _ q' => q') fun _ _ q' => q'
    rcases hc with z | z
    · rw [z]; exact nC b u q
    · exact nC c _ z
  have lt : ∀ b o, s.heap.get? b = some o → b ≠ C := fun b o q => Nat.ne_of_lt (Nat.lt_trans (Heap.lt_size q) hC)
  have u : Un (frs X.stack) fp H H' s.heap h' := ⟨fun b o q nn hb hx => hs b o (lt b o q) (IY.base.keep b o q nn hb hx), fun b o q nn hb hx => by
      obtain ⟨sl, q'⟩ := IY.base.slot b o q nn hb hx
      exact ⟨sl, hs b _ (lt b o q) q'⟩, IY.base.free, fun b o q hx => by
      obtain ⟨o', q'⟩ := IY.base.there b o q hx
      exact ⟨o', hs b o' (lt b o q) q'⟩, IY.base.tups, IY.base.frzs, IY.base.tbls⟩
  have I1 : Inv X pins σ H' { s' with heap := h' } := I.call' (s' := { s' with heap := h' }) (ch := fp) IY.os u hok IY.bare fun b hb => ⟨(hf b hb).2.2.2.1, (hf b hb).2.1, (hf b hb).2.2.2.2.1, (hf b hb).2.2.2.2.2⟩
  have hD : h'.get? s.heap.objs.size = some { cls := .type "list", data := .seq its.toArray n } := hs _ _ (Nat.ne_of_lt hC) e
  exact I1.track (by
    have f := I.fpOk (H' := H') (b := s.heap.objs.size) (Nat.le_refl _) en
    exact f) ⟨hz, its, n, v, hD⟩
theorem pe_comp (ok : CompOk X N nt caps scope) (hc : X.calm = true) (hi : PI X tg iter wi)
    (hg : ∀ cl C s H fp, PG (blk X N scope cl C s H fp) tg g) (hgk : GKeep nt g) (ht : ∀ cl C s H fp, PTs (blk X N scope cl C s H fp) ifs tt) (he : ∀ cl C s H fp, PE (blk X N scope cl C s H fp) elt te)
    (hs : ∀ x, foldedSetIterable iter X.env x = pure x := by intro _; rfl) : PE X (.ListComp elt [⟨tg, iter, ifs, 0⟩] scope pos) (tComp nt caps wi g tt te) := by
  intro pins s σ H Q I h
  obtain ⟨cl, hcl, h1, h2⟩ := closure_some (scope := scope) (env := X.env) fun n hn => I.ok.has n (ok.free n hn)
  rw [eval_ListComp]
  refine wpAny_comprehension_free (use := none) rfl hs hcl ok.kind ok.names (thn (hi pins s σ H _ I h) fun xv s1 h1' => thn h1' fun itv s2 h2' => ?_)
  obtain ⟨it, fp, tn, J, H2, e, I2, T, st2, f2, W, ⟨m0, w0⟩, turn⟩ := h2'
  subst e
  refine comp_run (RR := fun acc C => compPost (model X.prog X.w) X.A X.xe none (EP X pins σ Q) acc C) ok hc h1 h2 hg hgk ht he I2 T st2 f2 W (fun ys H' => ys.length ≤ sizeLine ∧ ∀ p, H' p = none → Q (.ref p) (upd H' p (.lst ys))) m0 w0 turn ?_
  intro C s' ys its n H' hC v IY e en zz
  obtain ⟨m, hn, _⟩ := IY.loc
  exact ⟨m, hn, fun h' hs' => ⟨.ref s2.heap.objs.size, _, comp_back I2 f2 hC v zz.1 IY e en (fun b o hb q => hs'.extBut b o hb q), rfl, zz.2 _ en⟩⟩
theorem ps_comp {i : Nat} {y : Str} {py spos : Pos} (hN : X.N.Nodup) (hyi : X.N[i]? = some y) (hy : X.env.scope.names.lookup y = some .local) (hsw : swapsWith (.ListComp elt [⟨tg, iter, ifs, 0⟩] scope pos) (some (.Name y py)) spos.line X.env = pure true)
    (ok : CompOk X N nt caps scope) (hc : X.calm = true) (hi : PI X tg iter wi)
    (hg : ∀ cl C s H fp, PG (blk X N scope cl C s H fp) tg g) (hgk : GKeep nt g) (ht : ∀ cl C s H fp, PTs (blk X N scope cl C s H fp) ifs tt) (he : ∀ cl C s H fp, PE (blk X N scope cl C s H fp) elt te)
    (hs : ∀ x, foldedSetIterable iter X.env x = pure x := by intro _; rfl) : PS X (.Assign [.Name y py] (.ListComp elt [⟨tg, iter, ifs, 0⟩] scope pos) spos) (tAsg (tComp nt caps wi g tt te) (gName i)) := by
  intro pins s σ H D I h
  obtain ⟨cl, hcl, h1, h2⟩ := closure_some (scope := scope) (env := X.env) fun n hn => I.ok.has n (ok.free n hn)
  rw [exec_Assign_Name_used _ _ _ _ hsw]
  refine wpAny_bind (wpAny_standAt (wpAny_bind ?_))
  show wpAny _ X.A (do let _ ← comprehension (.ListComp elt [⟨tg, iter, ifs, 0⟩] scope pos) scope X.env _ (newList []) false (eval iter X.env) (some (assign (.Name y py) X.env))) _ _ s
  refine wpAny_bind (wpAny_mono (wpAny_comprehension_free (use := some (assign (.Name y py) X.env)) (Q := fun _ s' => SP X pins D .next s') rfl hs hcl ok.kind ok.names
    (thn (hi pins s σ H _ I h) fun xv s1 h1' => thn h1' fun itv s2 h2' => ?_)) (fun _ s' hq => wpAny_pure (wpAny_pure hq)) fun _ _ e => e)
  obtain ⟨it, fp, tn, J, H2, e, I2, T, st2, f2, W, ⟨m0, w0⟩, turn⟩ := h2'
  subst e
  refine comp_run (RR := fun acc C => compPost (model X.prog X.w) X.A X.xe (some (assign (.Name y py) X.env)) (fun _ s' => SP X pins D .next s') acc C) ok hc h1 h2 hg hgk ht he I2 T st2 f2 W
    (fun ys H' => ys.length ≤ sizeLine ∧ ∀ p, H' p = none → gName i (.ref p) σ (upd H' p (.lst ys)) D.nx) m0 w0 turn ?_
  intro C s' ys its n H' hC v IY e en zz
  obtain ⟨m, hn, _⟩ := IY.loc
  have I3 : Inv X pins σ (upd H' s2.heap.objs.size (.lst ys)) s' := comp_back (h' := s'.heap) I2 f2 hC v zz.1 IY e en fun b o hb q => q
  obtain ⟨o, es, ep, ho, r⟩ := id hn
  have fC : FpOk X pins (upd H' s2.heap.objs.size (.lst ys)) C := by
    have f := I2.fpOk (H' := H') (b := C) (Nat.le_of_lt hC) IY.free
    refine ⟨by rw [upd_ne (Ne.symm (Nat.ne_of_lt hC))]; exact IY.free, f.2⟩
  show wpAny (model X.prog X.w) X.A (assign (.Name y py) X.env (.ref s2.heap.objs.size)) (fun _ s'' => ∃ m, s''.heap.Ns C m ∧ ∀ h', Heap.SameBut C s''.heap h' → SP X pins D .next { s'' with heap := h' }) X.xe s'
  have I3p : Inv X (pins ++ [(C, o)]) σ (upd H' s2.heap.objs.size (.lst ys)) s' := I3.pins_of fun p hp => by
    rcases List.mem_append.mp hp with z | z
    · exact I3.pin p (List.mem_append_right _ z)
    · have e : p = (C, o) := by simpa using z
      subst e
      exact ⟨ho, fC.1, fC.2.1, fC.2.2.1, fun v z => by rw [r.1] at z; cases z⟩
  refine wpAny_assign_Name (store_ok I3p hN hyi (.inl hy) (v := .ref s2.heap.objs.size) rfl (fun s4 I4 => ?_) (.inr hy))
  have a4 := I4.pin (C, o) (List.mem_append_right _ (List.mem_append_right _ (by simp)))
  refine ⟨m, ⟨o, es, ep, a4.1, r⟩, fun h' hs' => ⟨_, _, ?_, zz.2 _ en⟩⟩
  exact (I4.unpinned).turned (t' := s4.toks) (fun b o' hb q => hs'.extBut b o' hb q) fC.1 fC.2.1 fC.2.2.2.1 fC.2.2.2.2.1 fC.2.2.2.2.2
end
end L2
namespace L2
open PySem PySem.Spec PyProof.Rows
structure Cal (P : Program) (w : World) (K : PySem.W.Frag) (mg : Str → Option Value) (base : Heap) (x : Str) (k : Nat) (ps : List Str) (sp : Sp) (f : Addr) (fd : FuncData) : Prop where
  ok : FnOk P w K mg base CX0 k f fd ps sp
  mg : mg x = some (.ref f)
  kp : PySem.W.keepIn K (.ref f) = true
  bd : Binds K fd ps []
section
variable {X : Cx} {x : Str} {p pos : Pos} {e : Expr} {es : List Expr} {t : TA} {k j : Nat} {ps : List Str} {sp : Sp} {f : Addr} {fd : FuncData}
theorem pe_cal (C : Cal X.prog X.w X.K X.mg X.base x k ps sp f fd) (hr : Room j X.A) (hj : k ≤ j) (hg : Gl X x) (ha : PA X (e :: es) t) (hdb : (x == ("__debug__" : Str)) = false := by decide)
    (he : starEach (e :: es) X.env = (false, eval e X.env) :: starEach es X.env := by rfl) (hpl : (backTo pos (starEach es X.env)).any (·.1) = false := by rfl) :
    PE X (.Call (.Name x p) (e :: es) [] pos) (tCall sp [] E0 t) := pe_call C.ok (hr.mono hj) hg C.mg C.kp C.bd .nil pass0 ha hdb he hpl
end
section
variable {X : Cx}
def CDivB (i j : Int) : Prop := 0 < j ∧ j < 2 ^ 200
theorem CDivB.log {i j : Int} (h : CDivB i j) : j.natAbs.log2 < 9000 := by
  have h1 : 0 < j := h.1
  have h2 : j < 2 ^ 200 := h.2
  have h3 : j.natAbs < 2 ^ 200 := by omega
  have h4 : j.natAbs ≠ 0 := by omega
  have := (Nat.log2_lt h4).mpr h3
  omega
theorem op_fdivB : OpR X (binaryOp .FloorDiv) (rI CDivB fun i j => .int (i / j)) := opI fun i j _ _ _ _ _ hc q => by
  have h1 : (0 : Int) < j := hc.1
  exact floordiv_int (by omega) (by rw [Int.fdiv_eq_ediv_of_nonneg i (by omega)]; exact q) (.inl (PyProof.noPylong_of_log2 hc.log))
def kdOf (H : Hp) : V → Option String
  | .non => some "NoneType"
  | .bl _ => some "bool"
  | .int _ => some "int"
  | .str _ => some "str"
  | .ref a => match H a with
    | some (.lst _) => some "list"
    | some (.frz _ (.lst _)) => some "list"
    | some (.tup _) => some "tuple"
    | some (.dK _) => some "dict"
    | _ => none
  | _ => none
def subT (t c : String) : Bool := t == c || (t == "bool" && c == "int")
theorem kit_all (K : PySem.W.Frag) : ∀ t ∈ ["NoneType", "bool", "int", "str", "list", "tuple", "dict"], ∀ c ∈ ["int", "bool", "list", "tuple", "str"], PySem.W.kitOne K (.type t) (.type c) = some (subT t c) := by
  intro t ht c hc
  simp only [List.mem_cons, List.not_mem_nil, or_false] at ht hc
  rcases ht with rfl | rfl | rfl | rfl | rfl | rfl | rfl <;> rcases hc with rfl | rfl | rfl | rfl | rfl <;> rfl
theorem tyOf_kd {K : PySem.W.Frag} {H : Hp} {x : V} {t : String} (h : kdOf H x = some t) : TyOf K H x (.type t) ∧ t ∈ ["NoneType", "bool", "int", "str", "list", "tuple", "dict"] := by
  cases x with
  | non => cases h; exact ⟨.non, by decide⟩
  | bl b => cases h; exact ⟨.bl b, by decide⟩
  | int i => cases h; exact ⟨.int i, by decide⟩
  | str z => cases h; exact ⟨.str z, by decide⟩
  | ref a =>
    unfold kdOf at h
    dsimp only at h
    split at h
    · rename_i e; cases h; exact ⟨.lst e, by decide⟩
    · rename_i e; cases h; exact ⟨.frz e, by decide⟩
    · rename_i e; cases h; exact ⟨.tup e, by decide⟩
    · rename_i e; cases h; exact ⟨.dK e, by decide⟩
    · cases h
  | _ => cases h
def rIsinst : List V → Hp → VK → Prop := fun xs H Q => ∃ x c t, xs = [x, .ty c] ∧ kdOf H x = some t ∧ c ∈ ["int", "bool", "list", "tuple", "str"] ∧ Q (.bl (subT t c)) H
theorem call_isinst : CallR X (.builtin "isinstance") rIsinst := by
  intro pins s σ H xs us Q I r h
  obtain ⟨x, c, t, rfl, hk, hc, q⟩ := h
  obtain ⟨u, w', rfl, rx, ry⟩ := vals2 r
  cases (show w' = Value.type c from ry)
  obtain ⟨ty, ht⟩ := tyOf_kd (K := X.K) hk
  exact isinst_ok I rx ty (kit_all X.K t ht c hc) fun tk => ⟨.bl _, H, I.tok _, rfl, q⟩
def eqVs (xs ys : List V) : Bool := xs.length == ys.length && (List.range xs.length).all fun j => eqV (xs.getD j .non) (ys.getD j .non)
theorem eqVs_ints (ns ms : List Int) : eqVs (ns.map V.int) (ms.map V.int) = decide (ns = ms) := by
  unfold eqVs
  rw [List.length_map, List.length_map]
  by_cases hl : ns.length = ms.length
  · rw [show (ns.length == ms.length) = true by simpa using hl, Bool.true_and]
    rw [Bool.eq_iff_iff, List.all_eq_true, decide_eq_true_eq]
    constructor
    · intro h
      refine List.ext_getElem hl fun i h1 h2 => ?_
      have q := h i (List.mem_range.mpr h1)
      simpa [List.getD, h1, h2, eqV] using q
    · rintro rfl j hj
      have hj' := List.mem_range.mp hj
      simp [List.getD, hj', eqV]
  · rw [show (ns.length == ms.length) = false by simpa using hl, Bool.false_and]
    exact (decide_eq_false fun e => hl (by rw [e])).symm
def rEqL (K : PySem.W.Frag) : R2 := fun x y H Q => ∃ a b xs ys, x = .ref a ∧ y = .ref b ∧ SqL K H a xs ∧ SqL K H b ys ∧ xs.all flatV = true ∧ ys.all flatV = true ∧ Q (.bl (eqVs xs ys)) H
def rNeL (K : PySem.W.Frag) : R2 := fun x y H Q => ∃ a b xs ys, x = .ref a ∧ y = .ref b ∧ SqL K H a xs ∧ SqL K H b ys ∧ xs.all flatV = true ∧ ys.all flatV = true ∧ Q (.bl (!eqVs xs ys)) H
theorem item_eqAt {A : Around} {s : Shared} {xs ys : List V} {us ws : List Value} (rx : Vals xs us) (ry : Vals ys ws) (fx : xs.all flatV = true) (fy : ys.all flatV = true) (j : Nat) (h1 : j < us.toArray.size) (h2 : j < ws.toArray.size) :
    SeqAt.EqAt A s us.toArray[j] ws.toArray[j] (eqV (xs.getD j .non) (ys.getD j .non)) := by
  have l1 := rx.length
  have l2 := ry.length
  rw [List.size_toArray] at h1 h2
  have e1 : xs[j]? = some (xs.getD j .non) := by rw [List.getD_eq_getElem?_getD, List.getElem?_eq_getElem (by omega)]; rfl
  have e2 : ys[j]? = some (ys.getD j .non) := by rw [List.getD_eq_getElem?_getD, List.getElem?_eq_getElem (by omega)]; rfl
  obtain ⟨u, hu, ru⟩ := rx.get e1
  obtain ⟨v, hv, rv⟩ := ry.get e2
  have g1 : us.toArray[j] = u := by
    rw [List.getElem_toArray]
    exact Option.some.inj ((List.getElem?_eq_getElem h1).symm.trans hu)
  have g2 : ws.toArray[j] = v := by
    rw [List.getElem_toArray]
    exact Option.some.inj ((List.getElem?_eq_getElem h2).symm.trans hv)
  rw [g1, g2]
  exact eqAt_V ru rv (List.all_eq_true.mp fx _ (List.mem_of_getElem? e1)) (List.all_eq_true.mp fy _ (List.mem_of_getElem? e2))
theorem op_eqL (hu : X.A.units < cLine) : OpR X (compareOp .Eq) (rEqL X.K) := by
  intro pins s σ H x y v u Q I rx ry h
  obtain ⟨a, b, xs, ys, rfl, rfl, ha, hb, fx, fy, q⟩ := h
  cases rx
  cases ry
  obtain ⟨us, r1, p1, z1⟩ := I.list ha
  obtain ⟨ws, r2, p2, z2⟩ := I.list hb
  have l1 := r1.length
  have l2 := r2.length
  by_cases hl : xs.length = ys.length
  · refine SeqAt.eq_listAt p1.isList p2.isList (by simp only [List.size_toArray]; omega) hu (fun j h1 h2 => item_eqAt r1 r2 fx fy j h1 h2) ⟨.bl _, H, I, rfl, ?_⟩
    have e : eqVs xs ys = (List.range us.toArray.size).all fun j => eqV (xs.getD j .non) (ys.getD j .non) := by
      unfold eqVs
      rw [show (xs.length == ys.length) = true by simpa using hl, Bool.true_and, List.size_toArray, l1]
    rw [← e]
    exact q
  · refine SeqAt.eq_list_lengthsAt p1.isList p2.isList (by simp only [List.size_toArray, bne_iff_ne]; omega) hu ⟨.bl _, H, I, rfl, ?_⟩
    have e : eqVs xs ys = false := by
      unfold eqVs
      rw [show (xs.length == ys.length) = false by simpa using hl, Bool.false_and]
    rw [← e]
    exact q
theorem op_neL (hu : X.A.units < cLine) : OpR X (compareOp .NotEq) (rNeL X.K) := by
  intro pins s σ H x y v u Q I rx ry h
  obtain ⟨a, b, xs, ys, rfl, rfl, ha, hb, fx, fy, q⟩ := h
  cases rx
  cases ry
  obtain ⟨us, r1, p1, z1⟩ := I.list ha
  obtain ⟨ws, r2, p2, z2⟩ := I.list hb
  have l1 := r1.length
  have l2 := r2.length
  by_cases hl : xs.length = ys.length
  · refine SeqAt.RcNeAt.lists p1.isList p2.isList (by simp only [List.size_toArray]; omega) hu (fun j h1 h2 => item_eqAt r1 r2 fx fy j h1 h2) X.prog X.w _ _ ⟨.bl _, H, I, rfl, ?_⟩
    have e : eqVs xs ys = (List.range us.toArray.size).all fun j => eqV (xs.getD j .non) (ys.getD j .non) := by
      unfold eqVs
      rw [show (xs.length == ys.length) = true by simpa using hl, Bool.true_and, List.size_toArray, l1]
    rw [← e]
    exact q
  · refine SeqAt.RcNeAt.lists_lengths p1.isList p2.isList (by simp only [List.size_toArray, bne_iff_ne]; omega) hu X.prog X.w _ _ ⟨.bl _, H, I, rfl, ?_⟩
    have e : eqVs xs ys = false := by
      unfold eqVs
      rw [show (xs.length == ys.length) = false by simpa using hl, Bool.false_and]
    rw [e] at q
    exact q
def rCatS (K : PySem.W.Frag) : R2 := fun x y H Q => ∃ l b xs zs, x = .ref l ∧ y = .ref b ∧ SqL K H l xs ∧ SqL K H b zs ∧ xs.length + zs.length ≤ sizeLine ∧ ∀ p, H p = none → Q (.ref p) (upd H p (.lst (xs ++ zs)))
theorem op_catS : OpR X (binaryOp .Add) (rCatS X.K) := by
  intro pins s σ H x y v u Q I rx ry h
  obtain ⟨l, b, xs, zs, rfl, rfl, hl, hb, hz, q⟩ := h
  cases rx
  cases ry
  obtain ⟨us, r1, p1, z1⟩ := I.list hl
  obtain ⟨ws, r2, p2, z2⟩ := I.list hb
  obtain ⟨⟨c1, d1, t1, s1⟩, n1, e1, ec1, ed1, et1⟩ := p1
  obtain ⟨⟨c2, d2, t2, s2⟩, n2, e2, ec2, ed2, et2⟩ := p2
  simp only at ec1 ed1 et1 ec2 ed2 et2
  subst ec1 ed1 et1 ec2 ed2 et2
  have l1 := r1.length
  have l2 := r2.length
  refine concat_meets ⟨_, e1, rfl⟩ ⟨_, e2, rfl⟩ noFill_list_add seq_list_add PySem.F.slot_list_add PySem.F.entry_list_add (PySem.F.args_list_add_2 _ _) (list_addW l b us.toArray ws.toArray n1 n2 none none s1 s2 (by simp only [List.size_toArray]; omega)) ⟨e1, e2, ?_⟩
  have ea : us.toArray ++ ws.toArray = (us ++ ws).toArray := by simp
  rw [ea]
  exact ⟨.ref _, _, I.lnew (t' := s.toks) (r1.append r2) (by rw [List.length_append]; omega), rfl, q _ I.fresh⟩
def isPl : V → V → Bool
  | .bl _, .bl _ => true
  | .non, .bl _ => true
  | .bl _, .non => true
  | .non, .non => true
  | .int _, .bl _ => true
  | .int _, .non => true
  | .str _, .bl _ => true
  | .str _, .non => true
  | .ref _, .bl _ => true
  | .ref _, .non => true
  | _, _ => false
theorem is_ok {x y : V} {v u : Value} (rx : RelV x v) (ry : RelV y u) (h : isPl x y = true) : plainIs v u = true ∧ (v == u) = decide (x = y) := by
  cases x <;> cases y <;> first
    | exact absurd (show false = true from h) Bool.false_ne_true
    | (cases rx; cases ry; exact ⟨rfl, rfl⟩)
    | (cases rx; cases ry; rename_i a b; cases a <;> cases b <;> exact ⟨rfl, rfl⟩)
    | (obtain ⟨t, rfl⟩ := rx; cases ry; exact ⟨rfl, rfl⟩)
theorem op_isP : OpR X (compareOp .Is) (fun x y H Q => isPl x y = true ∧ Q (.bl (decide (x = y))) H) := by
  intro pins s σ H x y v u Q I rx ry h
  obtain ⟨e1, e2⟩ := is_ok rx ry h.1
  exact wpAny_is_plain e1 ⟨.bl _, H, I, by rw [e2]; rfl, h.2⟩
theorem pe_const {x : Str} {i : Int} {p : Pos} (h : ∃ t, X.mg x = some (.int i t)) (hg : Gl X x) (hd : (x == ("__debug__" : Str)) = false := by decide) : PE X (.Name x p) (tC (.int i)) := by
  obtain ⟨t, h⟩ := h
  exact pe_glob hg h ⟨t, rfl⟩ hd
theorem cx_K {CX : CXT} {P : Program} {w : World} {K : PySem.W.Frag} {mg : Str → Option Value} {base : Heap} {N : List Str} {qual : Str} {scope : Scope} {f : Addr} {cd : Value} {A : Around} {outer : List Env} {s : Shared} {H : Hp} {E : XK} :
    (cxOf CX P w K mg base N qual scope f cd A outer s H E).K = K := rfl
theorem tyV_list {K : PySem.W.Frag} {H : Hp} {a : Addr} {xs : List V} (h : H a = some (.lst xs)) : tyV K "list" (.ref a) H := .inl ⟨rfl, xs, SqL.of h⟩
theorem tyV_upd {K : PySem.W.Frag} {H : Hp} {a : Addr} {xs : List V} : tyV K "list" (.ref a) (upd H a (.lst xs)) ↔ True := ⟨fun _ => trivial, fun _ => tyV_list upd_same⟩
theorem kd_lst {H : Hp} {a : Addr} {xs : List V} (h : H a = some (.lst xs)) : kdOf H (.ref a) = some "list" := by unfold kdOf; dsimp only; rw [h]
theorem Same.upd {H H' : Hp} {a : Addr} {o : HO} (e : Same H H') (h : H a = none) : Same H (L2.upd H' a o) := fun b u q => by
  rw [upd_ne (fun z => by rw [z, h] at q; cases q)]
  exact e b u q
theorem Same.new {H : Hp} {a : Addr} {o : HO} (h : H a = none) : Same H (L2.upd H a o) := (Same.refl H).upd h
section
variable {K : PySem.W.Frag} {H : Hp} {Q : VK} {i j : Int} {a : Addr} {b c : Bool} {z z' : Str} {y : V} {g : Int → Int → V}
theorem rCatS_i : rCatS K (.int i) y H Q ↔ False := ⟨fun ⟨_, _, _, _, e, _⟩ => (nomatch e), False.elim⟩
theorem rEqL_i : rEqL K (.int i) y H Q ↔ False := ⟨fun ⟨_, _, _, _, e, _⟩ => (nomatch e), False.elim⟩
theorem rEqL_b : rEqL K (.bl b) y H Q ↔ False := ⟨fun ⟨_, _, _, _, e, _⟩ => (nomatch e), False.elim⟩
theorem rEqL_s : rEqL K (.str z) y H Q ↔ False := ⟨fun ⟨_, _, _, _, e, _⟩ => (nomatch e), False.elim⟩
theorem rEqL_n : rEqL K .non y H Q ↔ False := ⟨fun ⟨_, _, _, _, e, _⟩ => (nomatch e), False.elim⟩
theorem rNeL_i : rNeL K (.int i) y H Q ↔ False := ⟨fun ⟨_, _, _, _, e, _⟩ => (nomatch e), False.elim⟩
theorem rNeL_b : rNeL K (.bl b) y H Q ↔ False := ⟨fun ⟨_, _, _, _, e, _⟩ => (nomatch e), False.elim⟩
theorem rNeL_s : rNeL K (.str z) y H Q ↔ False := ⟨fun ⟨_, _, _, _, e, _⟩ => (nomatch e), False.elim⟩
theorem rNeL_n : rNeL K .non y H Q ↔ False := ⟨fun ⟨_, _, _, _, e, _⟩ => (nomatch e), False.elim⟩
theorem rEq_r : rEq (.ref a) y H Q ↔ False := ⟨fun ⟨e, _⟩ => by cases y <;> exact absurd (show false = true from e) Bool.false_ne_true, False.elim⟩
theorem rNe_r : rNe (.ref a) y H Q ↔ False := ⟨fun ⟨e, _⟩ => by cases y <;> exact absurd (show false = true from e) Bool.false_ne_true, False.elim⟩
theorem rEq_i : rEq (.int i) (.int j) H Q ↔ Q (.bl (decide (i = j))) H := by unfold rEq; simp [show scal (.int i) (.int j) = true from rfl]
theorem rNe_i : rNe (.int i) (.int j) H Q ↔ Q (.bl (!decide (i = j))) H := by unfold rNe; simp [show scal (.int i) (.int j) = true from rfl]
theorem rEq_b : rEq (.bl b) (.bl c) H Q ↔ Q (.bl (decide (b = c))) H := by unfold rEq; simp [show scal (.bl b) (.bl c) = true from rfl]
theorem rNe_b : rNe (.bl b) (.bl c) H Q ↔ Q (.bl (!decide (b = c))) H := by unfold rNe; simp [show scal (.bl b) (.bl c) = true from rfl]
theorem rEq_s : rEq (.str z) (.str z') H Q ↔ Q (.bl (decide (z = z'))) H := by unfold rEq; simp [show scal (.str z) (.str z') = true from rfl]
theorem rNe_s : rNe (.str z) (.str z') H Q ↔ Q (.bl (!decide (z = z'))) H := by unfold rNe; simp [show scal (.str z) (.str z') = true from rfl]
theorem rI0_r : rI0 g (.ref a) y H Q ↔ False := ⟨fun ⟨_, _, e, _⟩ => (nomatch e), False.elim⟩
theorem rI0_i : rI0 g (.int i) (.int j) H Q ↔ Q (g i j) H := ⟨fun ⟨_, _, e, e', q⟩ => by cases e; cases e'; exact q, fun q => ⟨i, j, rfl, rfl, q⟩⟩
theorem rI_i {C : Int → Int → Prop} : rI C g (.int i) (.int j) H Q ↔ C i j ∧ Q (g i j) H := ⟨fun ⟨_, _, e, e', q⟩ => by cases e; cases e'; exact q, fun q => ⟨i, j, rfl, rfl, q⟩⟩
theorem rApp_upd {xs : List V} : rAppend (.ref a) [y] (upd H a (.lst xs)) Q ↔ xs.length < sizeLine ∧ Q .non (upd H a (.lst (xs ++ [y]))) := by
  constructor
  · rintro ⟨l, ys, v, e1, e2, e3, e4, q⟩
    cases e1; cases e2
    rw [upd_same] at e3
    cases e3
    rw [upd_upd] at q
    exact ⟨e4, q⟩
  · rintro ⟨e, q⟩
    exact ⟨a, xs, y, rfl, rfl, upd_same, e, by rw [upd_upd]; exact q⟩
theorem cpow_of (h0 : 0 ≤ j) (h1 : j ≤ 1000) (h2 : -1000 ≤ i) (h3 : i ≤ 1000) : CPow i j := ⟨h0, by omega, by omega⟩
end
def LoopJ (J : It) (g : TG) (tb : TS) (D : Ends) (σ : St) (H : Hp) : Prop := ∃ W : Nat → Nat → St → Hp → Prop, (∃ m, W 0 m σ H) ∧ ∀ i m σ H, W i m σ H →
  (J.stop i H ∧ D.nx σ H) ∨ (J.go i H ∧ ∃ N : St → Hp → Prop, (∀ σ' H', N σ' H' → ∃ m', m' < m ∧ W (i + 1) m' σ' H') ∧ ∀ x H', J.yld i H x H' → g x σ H' fun σ2 H2 => tb { D with nx := N, ct := N, bk := D.nx } σ2 H2)
def CompJ (J : It) (nt : Nat) (caps : List Nat) (g : TG) (tt : TT) (te : TE) (σ : St) (H : Hp) (Q : VK) : Prop := ∃ W : Nat → Nat → List V → Hp → Prop, (∃ m, W 0 m [] H) ∧ ∀ i m ys H2, W i m ys H2 →
    (J.stop i H2 ∧ ys.length ≤ sizeLine ∧ ∀ p, H2 p = none → Q (.ref p) (upd H2 p (.lst ys))) ∨
    (J.go i H2 ∧ ys.length < sizeLine ∧ ∀ x H3, J.yld i H2 x H3 → g x (capSt nt caps σ) H3 fun σ4 H4 => tt σ4 H4 fun b H5 =>
      if b = true then te σ4 H5 fun y H6 => ∃ m', m' < m ∧ W (i + 1) m' (ys ++ [y]) H6 else ∃ m', m' < m ∧ W (i + 1) m' ys H5)
section
variable {K : PySem.W.Frag} {g : TG} {tb : TS} {D : Ends} {σ : St} {H : Hp} {a : Addr} {xs : List V} {tl : TE} {ta : TA} {nt : Nat} {caps : List Nat} {tt : TT} {te : TE} {Q : VK}
theorem tFor_l : tFor (iList K tl) g tb D σ H ↔ tl σ H fun x H1 => ∃ a, x = .ref a ∧ (∃ xs, SqL K H1 a xs) ∧ LoopJ (Itl K a) g tb D σ H1 := Iff.rfl
theorem tFor_r1 : tFor (iRng1 ta) g tb D σ H ↔ ta σ H fun vs H1 => ∃ j : Int, vs = [.int j] ∧ -(2 ^ 62) ≤ j ∧ j < 2 ^ 62 ∧ LoopJ (Itr 0 j.toNat) g tb D σ H1 := Iff.rfl
theorem tFor_r2 : tFor (iRng2 ta) g tb D σ H ↔ ta σ H fun vs H1 => ∃ i j : Int, vs = [.int i, .int j] ∧ (-(2 ^ 62) ≤ i ∧ i < 2 ^ 62 ∧ -(2 ^ 62) ≤ j ∧ j < 2 ^ 62) ∧ LoopJ (Itr i (j - i).toNat) g tb D σ H1 := Iff.rfl
theorem tComp_l : tComp nt caps (iList K tl) g tt te σ H Q ↔ tl σ H fun x H1 => ∃ a, x = .ref a ∧ (∃ xs, SqL K H1 a xs) ∧ CompJ (Itl K a) nt caps g tt te σ H1 Q := Iff.rfl
theorem tComp_r1 : tComp nt caps (iRng1 ta) g tt te σ H Q ↔ ta σ H fun vs H1 => ∃ j : Int, vs = [.int j] ∧ -(2 ^ 62) ≤ j ∧ j < 2 ^ 62 ∧ CompJ (Itr 0 j.toNat) nt caps g tt te σ H1 Q := Iff.rfl
theorem tComp_r2 : tComp nt caps (iRng2 ta) g tt te σ H Q ↔ ta σ H fun vs H1 => ∃ i j : Int, vs = [.int i, .int j] ∧ (-(2 ^ 62) ≤ i ∧ i < 2 ^ 62 ∧ -(2 ^ 62) ≤ j ∧ j < 2 ^ 62) ∧ CompJ (Itr i (j - i).toNat) nt caps g tt te σ H1 Q := Iff.rfl
theorem loopL (Pv : Nat → St → Hp → Prop) (h0 : Pv 0 σ H) (hl : ∀ i σ H, i ≤ xs.length → Pv i σ H → SqL K H a xs)
    (hs : ∀ i x σ H, xs[i]? = some x → Pv i σ H → g x σ H fun σ2 H2 => tb { D with nx := Pv (i + 1), ct := Pv (i + 1), bk := D.nx } σ2 H2) (hd : ∀ σ H, Pv xs.length σ H → D.nx σ H) : LoopJ (Itl K a) g tb D σ H := for_list Pv h0 hl hs hd
theorem loopR {lo : Int} {n : Nat} (Pv : Nat → St → Hp → Prop) (h0 : Pv 0 σ H)
    (hs : ∀ i σ H, i < n → Pv i σ H → g (.int (lo + i)) σ H fun σ2 H2 => tb { D with nx := Pv (i + 1), ct := Pv (i + 1), bk := D.nx } σ2 H2) (hd : ∀ σ H, Pv n σ H → D.nx σ H) : LoopJ (Itr lo n) g tb D σ H := for_range Pv h0 hs hd
end
section
variable {t u t' u' : TS} {te : TE} {g : TG} {c : TT} {D : Ends} {σ : St} {H : Hp} {wi : TI} {tb : TS}
theorem tSeq_asg : tSeq (tAsg te g) u D σ H ↔ te σ H fun x H1 => g x σ H1 (u D) := Iff.rfl
theorem tSeq_drop : tSeq (tDrop te) u D σ H ↔ te σ H fun _ H1 => u D σ H1 := Iff.rfl
theorem tSeq_for : tSeq (tFor wi g tb) u D σ H ↔ tFor wi g tb { D with nx := u D } σ H := Iff.rfl
theorem tSeq_while : tSeq (tWhile c tb) u D σ H ↔ tWhile c tb { D with nx := u D } σ H := Iff.rfl
theorem tSeq_ifr : tSeq (tIfS c (tRet te) tNext) u D σ H ↔ c σ H fun b H1 => if b = true then te σ H1 D.rt else u D σ H1 := Iff.rfl
theorem tIfS_ap : tIfS c t u D σ H ↔ c σ H fun b H1 => if b = true then t D σ H1 else u D σ H1 := Iff.rfl
theorem seqCut (I : St → Hp → Prop) (h2 : ∀ σ' H', I σ' H' → u D σ' H') (h1 : ∀ N : St → Hp → Prop, (∀ σ' H', I σ' H' → N σ' H') → t { D with nx := N } σ H) : tSeq t u D σ H := h1 (u D) h2
end
theorem rdg {t : TS} {D : Ends} {σ σ' : St} {H : Hp} (e : σ = σ') (h : t D σ' H) : t D σ H := e ▸ h
def EqOf (K : PySem.W.Frag) (x y : V) (H : Hp) (b : Bool) : Prop := (scal x y = true ∧ b = decide (x = y)) ∨
  ∃ a c xs ys, x = .ref a ∧ y = .ref c ∧ SqL K H a xs ∧ SqL K H c ys ∧ xs.all flatV = true ∧ ys.all flatV = true ∧ b = eqVs xs ys
def rEqX (K : PySem.W.Frag) : R2 := fun x y H Q => ∃ b, EqOf K x y H b ∧ Q (.bl b) H
def rNeX (K : PySem.W.Frag) : R2 := fun x y H Q => ∃ b, EqOf K x y H b ∧ Q (.bl (!b)) H
def IxOf (K : PySem.W.Frag) (x y : V) (H : Hp) (v : V) : Prop := (∃ p xs i, x = .ref p ∧ y = .int i ∧ SqL K H p xs ∧ atI xs i = some v) ∨ ∃ p xs i, x = .ref p ∧ y = .int i ∧ SqT K H p xs ∧ atI xs i = some v
def rIxX (K : PySem.W.Frag) : R2 := fun x y H Q => ∃ v, IxOf K x y H v ∧ Q v H
section
variable {K : PySem.W.Frag} {H : Hp} {Q : VK} {i j : Int} {a c : Addr} {b b' : Bool} {z z' : Str} {xs ys : List V}
theorem eqOf_i : EqOf K (.int i) (.int j) H b ↔ b = decide (i = j) := by
  constructor
  · rintro (⟨_, e⟩ | ⟨_, _, _, _, e, _⟩)
    · rw [e]; simp
    · cases e
  · intro e; exact .inl ⟨rfl, by rw [e]; simp⟩
theorem eqOf_b {b'' : Bool} : EqOf K (.bl b') (.bl b) H b'' ↔ b'' = decide (b' = b) := by
  constructor
  · rintro (⟨_, e⟩ | ⟨_, _, _, _, e, _⟩)
    · rw [e]; simp
    · cases e
  · intro e; exact .inl ⟨rfl, by rw [e]; simp⟩
theorem eqOf_s : EqOf K (.str z) (.str z') H b ↔ b = decide (z = z') := by
  constructor
  · rintro (⟨_, e⟩ | ⟨_, _, _, _, e, _⟩)
    · rw [e]; simp
    · cases e
  · intro e; exact .inl ⟨rfl, by rw [e]; simp⟩
theorem rEqX_i : rEqX K (.int i) (.int j) H Q ↔ Q (.bl (decide (i = j))) H := by unfold rEqX; simp [eqOf_i]
theorem rNeX_i : rNeX K (.int i) (.int j) H Q ↔ Q (.bl (!decide (i = j))) H := by unfold rNeX; simp [eqOf_i]
theorem rEqX_b : rEqX K (.bl b) (.bl b') H Q ↔ Q (.bl (decide (b = b'))) H := by unfold rEqX; simp [eqOf_b]
theorem rNeX_b : rNeX K (.bl b) (.bl b') H Q ↔ Q (.bl (!decide (b = b'))) H := by unfold rNeX; simp [eqOf_b]
theorem rEqX_s : rEqX K (.str z) (.str z') H Q ↔ Q (.bl (decide (z = z'))) H := by unfold rEqX; simp [eqOf_s]
theorem rNeX_s : rNeX K (.str z) (.str z') H Q ↔ Q (.bl (!decide (z = z'))) H := by unfold rNeX; simp [eqOf_s]
theorem eqX_l (h1 : SqL K H a xs) (h2 : SqL K H c ys) (f1 : xs.all flatV = true) (f2 : ys.all flatV = true) (q : Q (.bl (eqVs xs ys)) H) : rEqX K (.ref a) (.ref c) H Q := ⟨_, .inr ⟨a, c, xs, ys, rfl, rfl, h1, h2, f1, f2, rfl⟩, q⟩
theorem neX_l (h1 : SqL K H a xs) (h2 : SqL K H c ys) (f1 : xs.all flatV = true) (f2 : ys.all flatV = true) (q : Q (.bl (!eqVs xs ys)) H) : rNeX K (.ref a) (.ref c) H Q := ⟨_, .inr ⟨a, c, xs, ys, rfl, rfl, h1, h2, f1, f2, rfl⟩, q⟩
theorem ixX_l {v : V} (h : SqL K H a xs) (e : atI xs i = some v) (q : Q v H) : rIxX K (.ref a) (.int i) H Q := ⟨v, .inl ⟨a, xs, i, rfl, rfl, h, e⟩, q⟩
theorem op_eqK (h : X.K = K) (hu : X.A.units < cLine) : OpR X (compareOp .Eq) (rEqX K) := by
  subst h
  intro pins s σ H x y v u Q I rx ry q
  obtain ⟨b, hb, q⟩ := q
  rcases hb with ⟨hs, rfl⟩ | ⟨a, c, xs, ys, rfl, rfl, h1, h2, f1, f2, rfl⟩
  · exact op_eq pins s σ H x y v u Q I rx ry ⟨hs, q⟩
  · exact op_eqL hu pins s σ H _ _ v u Q I rx ry ⟨a, c, xs, ys, rfl, rfl, h1, h2, f1, f2, q⟩
theorem op_neK (h : X.K = K) (hu : X.A.units < cLine) : OpR X (compareOp .NotEq) (rNeX K) := by
  subst h
  intro pins s σ H x y v u Q I rx ry q
  obtain ⟨b, hb, q⟩ := q
  rcases hb with ⟨hs, rfl⟩ | ⟨a, c, xs, ys, rfl, rfl, h1, h2, f1, f2, rfl⟩
  · exact op_ne pins s σ H x y v u Q I rx ry ⟨hs, q⟩
  · exact op_neL hu pins s σ H _ _ v u Q I rx ry ⟨a, c, xs, ys, rfl, rfl, h1, h2, f1, f2, q⟩
theorem op_catK (h : X.K = K) : OpR X (binaryOp .Add) (rCatS K) := h ▸ op_catS
theorem op_inK (h : X.K = K) : OpR X (compareOp .In) (rIn K false) := h ▸ op_in_seq
theorem op_notInK (h : X.K = K) : OpR X (compareOp .NotIn) (rIn K true) := h ▸ op_notIn_seq
theorem ix_mono {r r' : R2} (h : IxR X r) (hr : ∀ x y H Q, r' x y H Q → r x y H Q) : IxR X r' :=
  fun value slice pins s σ H x y v u Q I rx ry q e => h value slice pins s σ H x y v u Q I rx ry (hr _ _ _ _ q) e
theorem ix_K (h : X.K = K) : IxR X (rIxX K) := by
  subst h
  refine ix_mono ix_seq fun x y H Q q => ?_
  obtain ⟨z, hz, q⟩ := q
  rcases hz with ⟨p, xs, i, e1, e2, e3, e4⟩ | ⟨p, xs, i, e1, e2, e3, e4⟩
  · exact .inl ⟨p, xs, i, z, e1, e2, e3, e4, q⟩
  · exact .inr (.inl ⟨p, xs, i, z, e1, e2, e3, e4, q⟩)
theorem call_lenK (h : X.K = K) : CallR X (.builtin "len") (fun xs H Q => ∃ p ys, xs = [.ref p] ∧ (SqL K H p ys ∨ SqT K H p ys) ∧ Q (.int ys.length) H) := h ▸ call_len_seq
theorem sl_K (h : X.K = K) : SlR X (rSlL K) := h ▸ sl_list
end
def sp1 (R : V → Hp → VK → Prop) : Sp := fun vs H Q _ => ∃ a, vs = [a] ∧ R a H Q
def sp2 (R : V → V → Hp → VK → Prop) : Sp := fun vs H Q _ => ∃ a b, vs = [a, b] ∧ R a b H Q
def sp3 (R : V → V → V → Hp → VK → Prop) : Sp := fun vs H Q _ => ∃ a b c, vs = [a, b, c] ∧ R a b c H Q
def spLaw (K : PySem.W.Frag) : Sp := sp1 fun x H Q => ∃ (a : Addr) (ns : List Int), x = .ref a ∧ SqL K H a (ns.map V.int) ∧ ns.length ≤ 63 ∧ ∀ H', Q (.bl true) H'
end
end L2
namespace L2
open PySem PySem.Spec PyProof.Rows
section
variable {X : Cx} {K : PySem.W.Frag}
def tRev (K : PySem.W.Frag) (te : TE) : TE := fun σ H Q => te σ H fun x H1 => ∃ a xs, x = .ref a ∧ SqL K H1 a xs ∧ ∀ p, H1 p = none → Q (.ref p) (upd H1 p (.lst xs.reverse))
theorem pe_rev {e : Expr} {te : TE} {k : Nat} {p1 p2 p3 pos : Pos} (hK : X.K = K) (he : PE X e te) : PE X (.Subscript e (.Slice none none (some (.UnaryOp .USub (.Constant (.int 1) k p1) p2)) p3) pos) (tRev K te) := by
  subst hK
  intro pins s σ H Q I h
  refine Subscript_ (thn (he pins s σ H _ I h) fun v s1 ⟨x, H1, I1, r1, q1⟩ => ?_)
  obtain ⟨a, xs, rfl, hx, q⟩ := q1
  cases r1
  refine wpAny_Slice ?_
  rw [evalPart_none]
  refine wpAny_pure (wpAny_pure ?_)
  have hst : PO X (some (.UnaryOp .USub (.Constant (.int 1) k p1) p2)) (tPart (tUn (rU fun i => .int (-i)) (tC (.int 1)))) := po_some (pe_un un_neg pe_int)
  refine thn (hst pins s1 σ H1 (fun i H2 => H2 = H1 ∧ i = some (-1)) I1 ⟨_, rfl, _, rfl, rfl, rfl⟩) fun vk s2 ⟨i, H2, I2, pk, q2⟩ => ?_
  obtain ⟨rfl, rfl⟩ := q2
  obtain ⟨its, r, ht, hz⟩ := I2.list hx
  have hlen := r.length
  have I3 : Inv X pins σ H2 { s2 with heap := s2.heap.push { cls := .type "slice", data := .fields #[.none, .none, vk] } } := I2.kept (t' := s2.toks) fun b ob q => Heap.get?_push_of_some _ q
  obtain ⟨its, r, ht, hz⟩ := I3.list hx
  have hlen := r.length
  refine tail_any (ops := [.ref a, .ref s2.heap.objs.size]) ht.isList.typeIs slot_list_getitem.lookup (wpAny_getItem_list_slice ht.isList (Heap.IsSliceOf.new ..) .none .none pk (by simp) ?_ (by rw [List.size_toArray] <;> omega)) (by with_unfolding_all rfl)
  rw [PySem.W.krv_pick]
  exact ⟨.ref _, _, I3.lnew (t' := s2.toks) (by simpa using r.reverse) (by rw [List.length_reverse]; exact hz), rfl, q _ I3.fresh⟩
def Itv (K : PySem.W.Frag) (a : Addr) (xs : List V) : It := ⟨fun i H => SqL K H a xs ∧ i < xs.length, fun i H x H' => H' = H ∧ xs.reverse[i]? = some x, fun i H => SqL K H a xs ∧ xs.length ≤ i⟩
def iRev (K : PySem.W.Frag) (ta : TA) : TI := fun σ H R => ta σ H fun vs H1 => ∃ a xs, vs = [.ref a] ∧ SqL K H1 a xs ∧ R (Itv K a xs) H1
end
section
variable {K : PySem.W.Frag} {g : TG} {tb : TS} {D : Ends} {σ : St} {H : Hp} {a : Addr} {xs : List V} {ta : TA}
theorem tFor_rv : tFor (iRev K ta) g tb D σ H ↔ ta σ H fun vs H1 => ∃ a xs, vs = [.ref a] ∧ SqL K H1 a xs ∧ LoopJ (Itv K a xs) g tb D σ H1 := Iff.rfl
end
end L2
namespace L2
open PySem PySem.Spec PyProof.Rows
theorem and_nat (a b : Nat) : Builtin.bitAnd (a : Int) (b : Int) = ((a &&& b : Nat) : Int) := by
  rw [bitAnd_pp (by omega) (by omega)]
  rfl
theorem or_nat (a b : Nat) : Builtin.bitOr (a : Int) (b : Int) = ((a ||| b : Nat) : Int) := by
  rw [bitOr_and, and_nat]
  have h : ∀ n (a b : Nat), a < 2 ^ n → a + b = (a ||| b) + (a &&& b) := by
    intro n
    induction n with
    | zero => intro a b ha; have : a = 0 := by omega
              subst this; simp
    | succ n ih =>
      intro a b ha
      have q := ih (a / 2) (b / 2) (by rw [Nat.pow_succ] at ha; omega)
      have e1 : (a ||| b) / 2 = a / 2 ||| b / 2 := Nat.or_div_two
      have e2 : (a &&& b) / 2 = a / 2 &&& b / 2 := Nat.and_div_two
      have m1 : (a ||| b) % 2 = if a % 2 = 1 ∨ b % 2 = 1 then 1 else 0 := by
        have := Nat.testBit_or a b 0
        simp only [Nat.testBit_zero] at this
        rcases Nat.mod_two_eq_zero_or_one (a ||| b) with z | z <;> rcases Nat.mod_two_eq_zero_or_one a with z1 | z1 <;> rcases Nat.mod_two_eq_zero_or_one b with z2 | z2 <;> simp [z, z1, z2] at this ⊢
      have m2 : (a &&& b) % 2 = if a % 2 = 1 ∧ b % 2 = 1 then 1 else 0 := by
        have := Nat.testBit_and a b 0
        simp only [Nat.testBit_zero] at this
        rcases Nat.mod_two_eq_zero_or_one (a &&& b) with z | z <;> rcases Nat.mod_two_eq_zero_or_one a with z1 | z1 <;> rcases Nat.mod_two_eq_zero_or_one b with z2 | z2 <;> simp [z, z1, z2] at this ⊢
      rw [← e1, ← e2] at q
      clear ih e1 e2 ha
      generalize (a ||| b) = x at q m1 ⊢
      generalize (a &&& b) = y at q m2 ⊢
      split at m1 <;> split at m2 <;> omega
  have := h (a + 1) a b (Nat.lt_of_lt_of_le (Nat.lt_succ_self a) (Nat.le_of_lt Nat.lt_two_pow_self))
  omega
theorem flat_ints (ns : List Int) : (ns.map V.int).all flatV = true := by
  rw [List.all_eq_true]
  intro x hx
  obtain ⟨z, _, rfl⟩ := List.mem_map.mp hx
  rfl
theorem pow_cast (k : Nat) : (2 : Int) ^ k = ((2 ^ k : Nat) : Int) := by
  rw [Int.natCast_pow]
  rfl
end L2
namespace Tim
open PySem PyProof.Rows
section
variable {prog : Program} {w : World} {A : Around} {E : Value → Shared → Prop} {s : Shared}
theorem sort_any {a : Addr} {vs : List Value} {ns : List Int} {n : Nat} {P : Fin → Shared → Prop} (at0 : s.heap.get? a = some (seqObj "list" vs.toArray n)) (hI : IntsAre vs ns) (hz : vs.length ≤ 63)
    (h : ∀ (out : Array Value) (ms : List Int), IntsAre out.toList ms → ms.Perm ns → ms.Pairwise (· ≤ ·) → P (.done (.ret .none)) { s with heap := sortedHeap s.heap a vs out }) :
    wpAny (model prog w) A (Builtin.«list.sort» ⟨[.ref a], []⟩) P E s := by
  exact list_sort_tree at0 hI (by omega) h
theorem sorted_any {l : Addr} {vs : List Value} {ns : List Int} {Q : Value → Shared → Prop} (hl : s.heap.IsList l vs.toArray) (hI : IntsAre vs ns) (hz : vs.length ≤ 63)
    (h : ∀ (out : Array Value) (ms : List Int), IntsAre out.toList ms → ms.Perm ns → ms.Pairwise (· ≤ ·) → Q (.ref (s.heap.objs.size + 1)) { s with heap := sortedAll s.heap vs out }) :
    wpAny (model prog w) A (call (.builtin "sorted") [.ref l]) Q E s := by
  have lim : vs.length ≤ sizeLine := by rw [sizeLine_eq]; omega
  refine Calls.call_function_entry kind_sorted plain_sorted entry_sorted (args_sorted1 _) (wpAny_bind (m := checkCount "sorted" 1 1 _) (wpAny_pure (wpAny_bind (collect_list hl (wpAny_bind (wpAny_newList ?_ lim)) lim))))
  have e : ((s.heap.push (seqObj "list" #[] 0)).update s.heap.objs.size (Obj.mapSeq (· ++ vs.toArray))).objs.size = s.heap.objs.size + 1 := by rw [Heap.size_update]; exact size_push' _ _
  have at0 : (((s.heap.push (seqObj "list" #[] 0)).update s.heap.objs.size (Obj.mapSeq (· ++ vs.toArray))).push (seqObj "list" vs.toArray 0)).get? (s.heap.objs.size + 1) = some (seqObj "list" vs.toArray 0) := e ▸ Heap.get?_push_size _ rfl
  dsimp only
  rw [e]
  exact wpAny_bind (wpAny_holding (wpAny_call_entry slot_list_sort ⟨_, at0, rfl⟩ entry_list_sort (sort_any at0 hI hz fun out ms m1 m2 m3 => ⟨_, rfl, wpAny_pure ⟨_, rfl, h out ms m1 m2 m3⟩⟩) (args_list_sort _)))
end
end Tim
namespace STb
open PySem PySem.SetTable
def Ris (xs : Array Nat) : Prop := xs.toList.Pairwise (· < ·)
theorem Ris.lt {xs : Array Nat} (h : Ris xs) {i j a b : Nat} (hij : i < j) (ha : xs[i]? = some a) (hb : xs[j]? = some b) : a < b := by
  have h' := List.pairwise_iff_getElem.mp h
  rw [← Array.getElem?_toList] at ha hb
  obtain ⟨h1, e1⟩ := List.getElem?_eq_some_iff.mp ha
  obtain ⟨h2, e2⟩ := List.getElem?_eq_some_iff.mp hb
  have := h' i j h1 h2 hij
  rw [e1, e2] at this
  exact this
theorem Ris.le {xs : Array Nat} (h : Ris xs) {i j a b : Nat} (hij : i ≤ j) (ha : xs[i]? = some a) (hb : xs[j]? = some b) : a ≤ b := by
  rcases Nat.lt_or_ge i j with z | z
  · exact Nat.le_of_lt (h.lt z ha hb)
  · have : i = j := by omega
    subst this
    rw [ha] at hb
    cases hb
    exact Nat.le_refl _
theorem go_spec {xs : Array Nat} (h : Ris xs) (j : Nat) : ∀ (fuel lo hi : Nat), hi - lo ≤ fuel → lo ≤ hi → hi ≤ xs.size →
    (∀ i y, i < lo → xs[i]? = some y → y < j) → (∀ i y, hi ≤ i → xs[i]? = some y → j ≤ y) →
    below.go xs j fuel lo hi ≤ xs.size ∧ (∀ i y, i < below.go xs j fuel lo hi → xs[i]? = some y → y < j) ∧ (∀ i y, below.go xs j fuel lo hi ≤ i → xs[i]? = some y → j ≤ y)
  | 0, lo, hi, hf, hl, hs, h1, h2 => by
    have : lo = hi := by omega
    subst this
    exact ⟨hs, h1, h2⟩
  | fuel + 1, lo, hi, hf, hl, hs, h1, h2 => by
    rw [below.go]
    by_cases hlt : lo < hi
    · rw [if_pos hlt]
      dsimp only
      have hm : (lo + hi) / 2 < xs.size := by omega
      have hg : xs[(lo + hi) / 2]? = some (xs.getD ((lo + hi) / 2) j) := by simp [Array.getD, hm]
      by_cases hc : xs.getD ((lo + hi) / 2) j < j
      · rw [if_pos hc]
        refine go_spec h j fuel _ _ (by omega) (by omega) hs (fun i y hi' e => ?_) h2
        exact Nat.lt_of_le_of_lt (h.le (by omega) e hg) hc
      · rw [if_neg hc]
        refine go_spec h j fuel _ _ (by omega) (by omega) (by omega) h1 (fun i y hi' e => ?_)
        exact Nat.le_trans (Nat.not_lt.mp hc) (h.le hi' hg e)
    · rw [if_neg hlt]
      have : lo = hi := by omega
      subst this
      exact ⟨hs, h1, h2⟩
theorem below_spec {xs : Array Nat} (h : Ris xs) (j : Nat) : below xs j ≤ xs.size ∧ (∀ i y, i < below xs j → xs[i]? = some y → y < j) ∧ (∀ i y, below xs j ≤ i → xs[i]? = some y → j ≤ y) :=
  go_spec h j xs.size 0 xs.size (by omega) (Nat.zero_le _) (Nat.le_refl _) (fun i y hi => by omega) (fun i y hi e => by
    rw [Array.getElem?_eq_none (by omega)] at e
    cases e)
theorem below_zero {xs : Array Nat} (h : Ris xs) : below xs 0 = 0 := by
  obtain ⟨h0, h1, _⟩ := below_spec h 0
  rcases Nat.eq_zero_or_pos (below xs 0) with z | z
  · exact z
  · have hlt : 0 < xs.size := by omega
    have := h1 0 xs[0] z (by simp)
    omega
theorem below_next {xs : Array Nat} (h : Ris xs) {i y : Nat} (e : xs[i]? = some y) : below xs (y + 1) = i + 1 := by
  obtain ⟨h0, h1, h2⟩ := below_spec h (y + 1)
  have hi : i < xs.size := by
    rcases Nat.lt_or_ge i xs.size with z | z
    · exact z
    · rw [Array.getElem?_eq_none z] at e; cases e
  have g1 : ¬ below xs (y + 1) ≤ i := fun z => by have := h2 i y z e; omega
  have g2 : ¬ i + 1 < below xs (y + 1) := fun z => by
    have hlt : i + 1 < xs.size := by omega
    have q := h1 (i + 1) xs[i + 1] z (by simp [hlt])
    have q' := h.lt (Nat.lt_succ_self i) e (show xs[i + 1]? = some xs[i + 1] by simp [hlt])
    omega
  omega
theorem insertAt_toList {α : Type} (xs : Array α) (p : Nat) (hp : p ≤ xs.size) (x : α) : (insertAt xs p x).toList = xs.toList.take p ++ x :: xs.toList.drop p := by
  unfold insertAt
  have e2 : (xs.extract p xs.size).toList = xs.toList.drop p := by
    rw [Array.toList_extract, List.extract_eq_drop_take]
    have : xs.size - p = (xs.toList.drop p).length := by rw [List.length_drop, Array.length_toList]
    rw [this, List.take_length]
  have e1 : (xs.extract 0 p).toList = xs.toList.take p := by
    rw [Array.toList_extract, List.extract_eq_drop_take]
    rfl
  rw [Array.toList_append, Array.toList_push, e1, e2, List.append_assoc]
  rfl
theorem put_ris {t : SetTable} (h : Ris t.place) {j : Nat} (hj : t.place[below t.place j]? ≠ some j) : Ris (t.put j).1.place := by
  obtain ⟨h0, h1, h2⟩ := below_spec h j
  unfold SetTable.put Ris
  dsimp only
  rw [insertAt_toList _ _ h0]
  have hp : (t.place.toList.take (below t.place j) ++ t.place.toList.drop (below t.place j)).Pairwise (· < ·) := by rw [List.take_append_drop]; exact h
  obtain ⟨p1, p2, p3⟩ := List.pairwise_append.mp hp
  refine List.pairwise_append.mpr ⟨p1, List.pairwise_cons.mpr ⟨fun y hy => ?_, p2⟩, fun x hx y hy => ?_⟩
  · obtain ⟨i, e⟩ := List.getElem?_of_mem hy
    rw [List.getElem?_drop, Array.getElem?_toList] at e
    have q := h2 _ y (Nat.le_add_right _ _) e
    rcases Nat.lt_or_ge j y with z | z
    · exact z
    · exfalso
      have ey : y = j := by omega
      subst ey
      cases i with
      | zero => exact hj (by simpa using e)
      | succ i =>
        have hlt : below t.place y < t.place.size := by
          rcases Nat.lt_or_ge (below t.place y + (i + 1)) t.place.size with z | z
          · omega
          · rw [Array.getElem?_eq_none z] at e; cases e
        have q1 := h2 (below t.place y) t.place[below t.place y] (Nat.le_refl _) (by simp)
        have q2 := h.lt (show below t.place y < below t.place y + (i + 1) by omega) (show t.place[below t.place y]? = some t.place[below t.place y] by simp) e
        omega
  · have hx' : x < j := by
      obtain ⟨i, e⟩ := List.getElem?_of_mem hx
      rw [List.getElem?_take] at e
      split at e
      · rename_i hi
        rw [Array.getElem?_toList] at e
        exact h1 i x hi e
      · cases e
    rcases List.mem_cons.mp hy with rfl | hy
    · exact hx'
    · exact p3 x hx y hy
def NotLive (t : SetTable) (j : Nat) : Prop := t.place[below t.place j]? ≠ some j
theorem slot_notlive {t : SetTable} {j : Nat} (h : ∀ i, t.slot j ≠ .live i) : NotLive t j := by
  intro e
  unfold SetTable.slot at h
  dsimp only at h
  rw [if_pos (by rw [e]; simp)] at h
  exact h _ rfl
theorem probe_go {t : SetTable} {h : Int} : ∀ (fuel : Nat) (p : Probe) (j : Nat) (d : Option Nat), (∀ x, p.dummy = some x → NotLive t x) → probe.go t (fun _ => h + 1) h fuel p = some (.empty j d) → NotLive t j ∧ ∀ x, d = some x → NotLive t x
  | 0, p, j, d, _, e => by rw [probe.go] at e; cases e
  | fuel + 1, p, j, d, hp, e => by
    rw [probe.go] at e
    cases hs : t.slot p.j with
    | empty =>
      rw [hs] at e
      cases e
      exact ⟨slot_notlive (fun i z => by rw [hs] at z; exact (nomatch z)), hp⟩
    | dummy =>
      rw [hs] at e
      refine probe_go fuel _ j d (fun x hx => ?_) e
      have : (t.advance { p with dummy := some p.j }).dummy = some p.j := by unfold SetTable.advance; dsimp only; split <;> rfl
      rw [this] at hx
      cases hx
      exact slot_notlive fun i z => by rw [hs] at z; cases z
    | live i =>
      rw [hs] at e
      dsimp only at e
      rw [if_neg (by simp; omega)] at e
      refine probe_go fuel _ j d (fun x hx => hp x ?_) e
      have : (t.advance p).dummy = p.dummy := by unfold SetTable.advance; dsimp only; split <;> rfl
      rw [this] at hx
      exact hx
theorem free_notlive {t : SetTable} {h : Int} {j : Nat} {b : Bool} (e : t.freeSlot h = some (j, b)) : NotLive t j := by
  unfold SetTable.freeSlot at e
  split at e
  · rename_i k d hd
    cases e
    obtain ⟨q1, q2⟩ := probe_go _ _ _ _ (by intro x hx; cases hx) hd
    cases d with
    | none => exact q1
    | some x => exact q2 x rfl
  · cases e
theorem range_ris (n : Nat) : Ris (Array.range n) := by
  unfold Ris
  rw [Array.toList_range]
  exact List.pairwise_lt_range
theorem standIn_ris (t : SetTable) (n : Nat) : Ris (t.standIn n).place := range_ris n
theorem layNew_ris {t : SetTable} {es : Array (Int × Value)} {h : Int} {x : Value} (hr : Ris t.place) : Ris (layNew t es h x).2.1.place ∧ (layNew t es h x).2.1.led = t.led := by
  unfold layNew
  split
  · rename_i slot wd e
    dsimp only
    unfold SetTable.orStandIn
    split
    · exact ⟨put_ris hr (free_notlive e), rfl⟩
    · exact ⟨standIn_ris _ _, rfl⟩
  · exact ⟨standIn_ris _ _, rfl⟩
theorem laid_ris {mask finger moves : Nat} {led plain : Bool} {hashes : Array Int} {t : SetTable} {o : Array Nat} (e : laid mask finger moves led plain hashes = some (t, o)) : Ris t.place ∧ t.led = led := by
  unfold laid at e
  cases hc : layClean mask hashes with
  | none => rw [hc] at e; cases e
  | some owner =>
    rw [hc] at e
    have e' := Option.some.inj e
    have e1 := congrArg Prod.fst e'
    dsimp only at e1
    subst e1
    refine ⟨?_, rfl⟩
    unfold Ris
    dsimp only
    have key : ∀ l : List Nat, l.Pairwise (· < ·) → ((l.filterMap fun j => (owner.getD j none).map (j, ·)).map (·.1)).Pairwise (· < ·) := by
      intro l
      induction l with
      | nil => intro _; exact List.Pairwise.nil
      | cons a r ih =>
        intro hp
        obtain ⟨h1, h2⟩ := List.pairwise_cons.mp hp
        rw [List.filterMap_cons]
        split
        · exact ih h2
        · rename_i b hb
          rw [List.map_cons]
          refine List.pairwise_cons.mpr ⟨fun y hy => ?_, ih h2⟩
          have hb' : b.1 = a := by
            cases hq : owner.getD a none with
            | none => rw [hq] at hb; cases hb
            | some z => rw [hq] at hb; cases hb; rfl
          rw [hb']
          obtain ⟨q, hq, rfl⟩ := List.mem_map.mp hy
          obtain ⟨z, hz, e⟩ := List.mem_filterMap.mp hq
          have : q.1 = z := by
            cases hq2 : owner.getD z none with
            | none => rw [hq2] at e; cases e
            | some v => rw [hq2] at e; cases e; rfl
          rw [this]
          exact h1 z hz
    simpa using key (List.range (mask + 1)) List.pairwise_lt_range
theorem relayAll_ris {t : SetTable} {es : Array (Int × Value)} {wanted : Nat} : Ris (relayAll t es wanted).2.1.place ∧ (relayAll t es wanted).2.1.led = t.led := by
  unfold relayAll
  split
  · rename_i t' order e
    dsimp only
    split
    · unfold SetTable.relaid at e
      exact laid_ris e
    · exact ⟨standIn_ris _ _, rfl⟩
  · exact ⟨standIn_ris _ _, rfl⟩
end STb
namespace STb
open PySem PySem.SetTable PyProof.Rows
def kI : Value → Option Int
  | .int n _ => some n
  | _ => none
theorem kI_is {prog : Program} {w : World} {k : Int} {v : Value} : (intKind prog w).is k v = true ↔ kI v = some k := by
  constructor
  · intro h
    cases v <;> first
      | (rename_i n t; have : n = k := by simpa [intKind, Value.isInt] using h
         rw [this]; rfl)
      | (exfalso; simp [intKind, Value.isInt] at h)
  · intro h
    cases v <;> first
      | (rename_i n t; cases h; exact intKind_is _ _ _ _)
      | cases h
def RS (prog : Program) (w : World) (h : Heap) (a : Addr) (ns : List Int) : Prop :=
  ∃ es ep t, h.get? a = some { cls := .type "set", dict := none, data := .set es ep t } ∧ ElemsOf (intKind prog w) es.toList ∧ (es.toList.map fun e => kI e.2).Perm (ns.map some) ∧ es.size < scanBound ∧ t.fits es.size = true ∧
    Ris t.place ∧ t.led = !w.params.followText "set-order" ∧ ns.Nodup
theorem RS.keep {prog : Program} {w : World} {h h' : Heap} {a : Addr} {ns : List Int} (r : RS prog w h a ns) (k : ∀ o, h.get? a = some o → h'.get? a = some o) : RS prog w h' a ns := by
  obtain ⟨es, ep, t, e, q⟩ := r
  exact ⟨es, ep, t, k _ e, q⟩
theorem RS.len {prog : Program} {w : World} {h : Heap} {a : Addr} {ns : List Int} (r : RS prog w h a ns) : ns.length < scanBound := by
  obtain ⟨es, ep, t, e, _, p, b, _⟩ := r
  have := p.length_eq
  rw [List.length_map, List.length_map, Array.length_toList] at this
  omega
def addTo (ns : List Int) (n : Int) : List Int := if n ∈ ns then ns else ns ++ [n]
theorem addTo_nd {ns : List Int} {n : Int} (h : ns.Nodup) : (addTo ns n).Nodup := by
  unfold addTo
  split
  · exact h
  · rename_i hn
    exact List.nodup_append.mpr ⟨h, by simp, fun a ha b hb e => hn (by simp at hb; rw [← hb, ← e]; exact ha)⟩
theorem addTo_mem {ns : List Int} {n k : Int} : k ∈ addTo ns n ↔ k ∈ ns ∨ k = n := by
  unfold addTo
  split
  · rename_i hn
    exact ⟨.inl, fun h => h.elim id fun e => e ▸ hn⟩
  · simp
theorem addTo_len (ns : List Int) (n : Int) : (addTo ns n).length ≤ ns.length + 1 := by
  unfold addTo
  split
  · omega
  · simp
section
variable {prog : Program} {w : World} {A : Around} {E : Value → Shared → Prop} {s : Shared} {a : Addr}
theorem add_ok {ns : List Int} {n : Int} {tk : Tok} {Q : Bool → Shared → Prop} (r : RS prog w s.heap a ns) (room : ns.length + 1 < scanBound)
    (h : ∀ b h', Heap.SameBut a s.heap h' → RS prog w h' a (addTo ns n) → Q b { s with heap := h' }) :
    wpAny (model prog w) A (setAddHashed a (.int n tk) ((intKind prog w).hash n)) Q E s := by
  obtain ⟨es, ep, t, ho, el, pm, bd, ft, rs, ld, nd⟩ := r
  have hsz : es.size = ns.length := by
    have := pm.length_eq
    rwa [List.length_map, List.length_map, Array.length_toList] at this
  have hkey : (intKind prog w).is n (.int n tk) = true := intKind_is _ _ _ _
  have memk : ∀ k : Int, k ∈ ns ↔ ∃ e ∈ es.toList, (intKind prog w).is k e.2 = true := fun k => by
    have : k ∈ ns ↔ some k ∈ ns.map some := by simp
    rw [this, ← pm.mem_iff, List.mem_map]
    exact ⟨fun ⟨e, he, q⟩ => ⟨e, he, kI_is.mpr q⟩, fun ⟨e, he, q⟩ => ⟨e, he, kI_is.mp q⟩⟩
  unfold setAddHashed setAddHashedIn
  refine wpAny_holding (wpAny_bind (wpAny_setState_of ho rfl ft ?_))
  dsimp only
  rw [byScan_of (x := .int n tk) rfl bd el]
  simp only [if_true]
  unfold setAddByScan
  refine wpAny_bind (wpAny_bind (wpAny_rule (wpAny_bind (wpAny_setScan_of hkey ho rfl ft el ?_))))
  cases hr : List.findIdx? (fun e => (intKind prog w).is n e.2) es.toList with
  | some j =>
    dsimp only
    obtain ⟨hj, hpj, _⟩ := List.findIdx?_eq_some_iff_getElem.mp hr
    have hin : n ∈ ns := (memk n).mpr ⟨_, List.getElem_mem hj, hpj⟩
    refine wpAny_pure (wpAny_pure ?_)
    have q := h false s.heap (Heap.SameBut.refl a s.heap) (by rw [show addTo ns n = ns from if_pos hin]; exact ⟨es, ep, t, ho, el, pm, bd, ft, rs, ld, nd⟩)
    exact q
  | none =>
    dsimp only
    have hnot : ¬ n ∈ ns := fun z => by
      obtain ⟨e, he, q⟩ := (memk n).mp z
      have := List.findIdx?_eq_none_iff.mp hr e he
      rw [q] at this
      cases this
    have pN := layNew_perm t es ((intKind prog w).hash n) (.int n tk)
    have fN := layNew_fits t es ((intKind prog w).hash n) (.int n tk)
    have rN := layNew_ris (es := es) (h := (intKind prog w).hash n) (x := .int n tk) rs
    generalize layNew t es ((intKind prog w).hash n) (.int n tk) = L at pN fN rN ⊢
    obtain ⟨e1, t1, wd, gv⟩ := L
    dsimp only at pN fN rN ⊢
    rw [Array.toList_push] at pN
    have el1 : ElemsOf (intKind prog w) e1.toList := (el.push hkey rfl).perm pN
    have pm1 : (e1.toList.map fun e => kI e.2).Perm ((addTo ns n).map some) := by
      rw [show addTo ns n = ns ++ [n] from if_neg hnot, List.map_append]
      refine (pN.map fun e => kI e.2).trans ?_
      rw [List.map_append]
      exact pm.append (List.Perm.refl _)
    have sz1 : e1.size = es.size + 1 := by
      rw [← Array.length_toList, pN.length_eq, List.length_append, Array.length_toList]
      rfl
    have bd1 : e1.size < scanBound := by omega
    have nd1 := addTo_nd (n := n) nd
    have gw : ∀ (b : Bool) (s₁ : Shared) (Q' : Unit → Shared → Prop), Q' () s₁ → wpAny (model prog w) A (match b with | true => rule "set.scan.the-table-gave-way" | false => pure ()) Q' E s₁ := fun b s₁ Q' q => by
      cases b
      · exact wpAny_pure q
      · exact wpAny_rule q
    refine wpAny_bind (gw gv _ _ ?_)
    have tail : ∀ t2 : SetTable, t2.fits e1.size = true → Ris t2.place → t2.led = t.led → wpAny (model prog w) A (do
        storeSet a e1 t2
        if (!wd && t2.tooFull) = true then do
            (match (relayAll t2 e1 (SetTable.grown e1.size)).2.2 with | true => rule "set.scan.the-table-gave-way" | false => pure ())
            storeSet a (relayAll t2 e1 (SetTable.grown e1.size)).1 (relayAll t2 e1 (SetTable.grown e1.size)).2.1
            pure (some true)
          else pure (some true)) (fun r s' => ∃ b, r = some b ∧ Q b s') E s := fun t2 f2 r2 l2 => by
      refine wpAny_bind (wpAny_storeSet_of ho rfl ?_ (fits_of_scanBound bd1))
      have g1 : (s.heap.update a (Obj.putSet e1 t2)).get? a = some { cls := .type "set", dict := none, data := .set e1 (ep + 1) t2 } := Heap.get?_update_self (Obj.putSet e1 t2) ho rfl
      have sb1 := Heap.SameBut.update s.heap a (Obj.putSet e1 t2)
      split
      · have pR := relayAll_perm t2 e1 (SetTable.grown e1.size)
        have fR := relayAll_fits t2 e1 (SetTable.grown e1.size)
        have rR := relayAll_ris (t := t2) (es := e1) (wanted := SetTable.grown e1.size)
        generalize relayAll t2 e1 (SetTable.grown e1.size) = L2 at pR fR rR ⊢
        obtain ⟨e3, t3, g3⟩ := L2
        dsimp only at pR fR rR ⊢
        have sz3 : e3.size = e1.size := by rw [← Array.length_toList, pR.length_eq, Array.length_toList]
        refine wpAny_bind (gw g3 _ _ (wpAny_bind (wpAny_storeSet_of g1 rfl ?_ (fits_of_scanBound (by omega)))))
        exact wpAny_pure ⟨true, rfl, h true _ (sb1.trans (Heap.SameBut.update _ a _)) ⟨e3, _, t3, Heap.get?_update_self (Obj.putSet e3 t3) g1 rfl, el1.perm pR, (pR.map _).trans pm1, by omega, fR, rR.1, by rw [rR.2, l2]; exact ld, nd1⟩⟩
      · exact wpAny_pure ⟨true, rfl, h true _ sb1 ⟨e1, _, t2, g1, el1, pm1, bd1, f2, r2, by rw [l2]; exact ld, nd1⟩⟩
    have fin : ∀ (r : Option Bool) (s' : Shared), (∃ b, r = some b ∧ Q b s') → wpAny (model prog w) A (match r with | some added => pure added | none => setAddHashedIn a (.int n tk) ((intKind prog w).hash n) 99999) Q E s' := fun r s' ⟨b, e, q⟩ => by
      subst e
      exact wpAny_pure q
    split
    · refine wpAny_bind ?_
      rw [hashByValue_scannable 8 (x := .int n tk) rfl]
      refine wpAny_pure ?_
      refine wpAny_mono (tail t1 fN rN.1 rN.2) (fun r s' q => ?_) fun _ _ z => z
      exact fin r s' q
    · refine wpAny_bind (wpAny_pure ?_)
      refine wpAny_mono (tail t1 fN rN.1 rN.2) (fun r s' q => ?_) fun _ _ z => z
      exact fin r s' q
end
end STb
namespace STb
open PySem PySem.SetTable PyProof.Rows
def metBy (val : Nat → Int) (i : Nat) : List Int := ((List.range i).map val).foldl addTo []
theorem metBy_succ (val : Nat → Int) (i : Nat) : metBy val (i + 1) = addTo (metBy val i) (val i) := by
  unfold metBy
  rw [List.range_succ, List.map_append, List.foldl_append]
  rfl
theorem metBy_len (val : Nat → Int) : ∀ i, (metBy val i).length ≤ i
  | 0 => Nat.zero_le _
  | i + 1 => by
    rw [metBy_succ]
    have h1 := addTo_len (metBy val i) (val i)
    have h2 := metBy_len val i
    omega
theorem metBy_mem (val : Nat → Int) (k : Int) : ∀ i, k ∈ metBy val i ↔ ∃ j, j < i ∧ val j = k
  | 0 => by simp [metBy]
  | i + 1 => by
    rw [metBy_succ, addTo_mem, metBy_mem val k i]
    constructor
    · rintro (⟨j, hj, e⟩ | e)
      · exact ⟨j, by omega, e⟩
      · exact ⟨i, by omega, e.symm⟩
    · rintro ⟨j, hj, e⟩
      by_cases z : j = i
      · exact .inr (by rw [← e, z])
      · exact .inl ⟨j, by omega, e⟩
section
variable {prog : Program} {w : World} {A : Around} {R : Result → Shared → Prop} {I : Addr} {fp wr : List Addr} {G : Array GenState → Array GenState → Prop} {n : Nat} {P : Nat → Value → Prop} {St : Nat → Shared → Prop}
theorem fill_loop (W : WalksS prog w A.in1 I fp wr G n P St) (S : Addr) (out : S ∉ fp) (val : Nat → Int) (hv : ∀ i v, P i v → ∃ t, v = .int (val i) t) (room : ∀ i, i ≤ n → (metBy val i).length + 1 < scanBound) :
    ∀ (k i : Nat) (s : Shared), n - i = k → i ≤ n → St i s → RS prog w s.heap S (metBy val i) →
      (∀ s', Moved (S :: wr) G s s' → RS prog w s'.heap S (metBy val n) → R (.ok (.ret .none)) s') → codeAny (model prog w) A (.builtin "set.update.loop" ⟨[.ref S, .ref I], []⟩) R s := by
  have nw : S ∉ wr := fun z => out (W.sub _ z)
  have sub : ∀ b ∈ wr, b ∈ S :: wr := fun b z => List.mem_cons_of_mem _ z
  intro k
  induction k with
  | zero =>
    intro i s hk hi st r fin
    have : i = n := by omega
    subst this
    refine codeAny_builtin F.entry_set_update_loop ?_
    rw [Around.under_plainId F.plain_set_update_loop _]
    refine wpAny_bind (m := pyNext (.ref I)) (W.done s _ _ st fun s' mv => ?_)
    exact wpAny_pure (fin s' (mv.mono sub) (r.keep fun o e => mv.heap S o nw e))
  | succ k ih =>
    intro i s hk hi st r fin
    have hlt : i < n := by omega
    refine codeAny_builtin F.entry_set_update_loop ?_
    rw [Around.under_plainId F.plain_set_update_loop _]
    refine wpAny_bind (m := pyNext (.ref I)) (W.item i s _ _ hlt st fun v s' pv st' mv => ?_)
    obtain ⟨t, rfl⟩ := hv i v pv
    have r' := r.keep (h' := s'.heap) fun o e => mv.heap S o nw e
    show wpAny _ A.in1 (holding [Value.int (val i) t] (setAdd S (.int (val i) t)) >>= _) _ _ s'
    refine wpAny_bind (wpAny_holding ?_)
    unfold setAdd
    refine wpAny_holding (wpAny_bind ((intKind prog w).pyHash (k := val i) (intKind_is _ _ _ _) ?_))
    refine add_ok (s := { s' with toks := s'.toks + 1 }) r' (room i hi) fun b h' sb r2 => ?_
    refine wpAny_pure ⟨plainId_quiet F.plain_set_update_loop _, ih (i + 1) _ (by omega) hlt (W.frame _ s' _ _ st' (Nat.le_succ _) fun b hb o e => ?_) (by rw [metBy_succ]; exact r2) fun s2 mv2 r3 => ?_⟩
    · rw [sb.2 b fun z => out (z ▸ hb)]; exact e
    · refine fin s2 (Moved.trans W.gtrans ((mv.mono sub).then_heap (Nat.le_succ _) fun b o hb e => ?_) mv2) r3
      rw [sb.2 b fun z => hb (z ▸ List.mem_cons_self)]; exact e
end
section
variable {prog : Program} {w : World} {A : Around} {E : Value → Shared → Prop} {s : Shared}
abbrev setObj (b : Bool) : Obj := { cls := .type "set", dict := none, data := .set #[] 0 (.fresh 0 0 b) }
theorem rs_fresh {h : Heap} {a : Addr} (e : h.get? a = some (setObj (!w.params.followText "set-order"))) : RS prog w h a [] :=
  ⟨#[], 0, _, e, fun _ z => by simp at z, List.Perm.refl _, by show 0 < 4096; decide, rfl, List.Pairwise.nil, rfl, List.nodup_nil⟩
theorem set_new (v : Value) {Q₁ : Value → Shared → Prop} (h : Q₁ (.ref s.heap.objs.size) { s with heap := s.heap.push (setObj (!w.params.followText "set-order")) }) :
    codeAny (model prog w) A (.call (.builtin "set.__new__") ⟨[.type "set", v], []⟩) (wants Q₁ E) s := by
  refine codeAny_of_tree ?_
  refine wpAny_bind (m := checkBuiltinCall "set.__new__" ⟨[.type "set", v], []⟩) (wpAny_of_eq (F.newCall_set_1 v) (wpAny_pure ⟨plainId_quiet F.plain_set_new _, codeAny_builtin F.entry_set_new ?_⟩))
  rw [Around.under_plainId F.plain_set_new _]
  unfold Builtin.«set.__new__» Builtin.Frozenset.newClass
  have sub0 := sub_set_self
  obtain ⟨hp, g, d, tk, os⟩ := s
  dsimp only
  wp_walk
  refine wpAny_askSetting (wpAny_pure ?_)
  dsimp only
  simp only [newObj]
  exact wpAny_bind (wpAny_alloc (wpAny_pure (wpAny_pure h)))
set_option maxHeartbeats 3200000 in
theorem call_setR {l : Addr} {its : Array Value} {ns : List Int} {Q : Value → Shared → Prop} (hh : A.handled = none) (hl : s.heap.IsList l its) (hi : IntsAre its.toList ns) (room : ∀ i, i ≤ its.size → (metBy (fun i => ns.getD i 0) i).length + 1 < scanBound)
    (h : ∀ (h' : Heap) (tk : Nat), RS prog w h' s.heap.objs.size (metBy (fun i => ns.getD i 0) its.size) → (∀ b o, b < s.heap.objs.size → s.heap.get? b = some o → h'.get? b = some o) → Q (.ref s.heap.objs.size) { s with heap := h', toks := tk }) :
    wpAny (model prog w) A (call (.type "set") [.ref l]) Q E s := by
  obtain ⟨c, tl, mro⟩ := F.called_set.mro
  have made := F.called_set.made
  have sub1 := F.called_set.sub
  refine wpAny_call (codeAny_of_tree (wpAny_pure ⟨Code.quiet_builtin _ (by decide +kernel), codeAny_builtin F.entry_type_call ?_⟩))
  rw [Around.under_plain (weight_type_call_type "set" [.ref l] []) rfl]
  have nt := F.called_set.notType
  have cc := F.called_set.canCreate
  have tc := F.typeCall_set_1 (.ref l)
  repeat (any_goals (first | assumption | wp_step))
  refine codeAny_mono (set_new (.ref l) (E := E) (Q₁ := fun obj s₁ => obj = .ref s.heap.objs.size ∧ s₁ = { s with heap := s.heap.push (setObj (!w.params.followText "set-order")) }) ⟨rfl, rfl⟩) fun r s₁ hr => ?_
  cases r with
  | error e => exact hr
  | ok fl =>
    cases fl with
    | ret obj =>
      obtain ⟨rfl, rfl⟩ := hr
      have g0 : (s.heap.push (setObj (!w.params.followText "set-order"))).get? s.heap.objs.size = some (setObj (!w.params.followText "set-order")) := Heap.get?_push_size _ rfl
      have ty : Shared.TypeIs { s with heap := s.heap.push (setObj (!w.params.followText "set-order")) } (.ref s.heap.objs.size) "set" := ⟨_, g0, rfl⟩
      have li := F.called_set.init.lookup
      have bi := F.called_set.init.bind (.ref s.heap.objs.size)
      repeat (any_goals (first | assumption | wp_step))
      refine codeAny_mono (codeAny_call_builtin (R := wants (fun r s₂ => r = .none ∧ ∃ h' tk, s₂ = { s with heap := h', toks := tk } ∧ RS prog w h' s.heap.objs.size (metBy (fun i => ns.getD i 0) its.size) ∧
          (∀ b o, b < s.heap.objs.size → s.heap.get? b = some o → h'.get? b = some o)) E) F.called_set.init.plain F.entry_set_init (check_set_init_1 ty ?_)) fun r₂ s₂ hr₂ => ?_
      · obtain ⟨⟨oc, od, ot, osl⟩, e0, ec, nl, ed⟩ := hl
        simp only at ec ed
        subst ec ed
        have e1 : (s.heap.push (setObj (!w.params.followText "set-order"))).get? l = some ⟨.type "list", od, .seq its nl, osl⟩ := Heap.get?_push_of_some _ e0
        have q1 := F.sub_list_set
        have q2 := F.sub_list_frozenset
        have q3 : (Value.type "list" == Value.type "dict") = false := by decide
        have il : (s.heap.push (setObj (!w.params.followText "set-order"))).IsList l its := ⟨_, e1, rfl, nl, rfl⟩
        unfold Builtin.«set.__init__» noKeywords Builtin.Frozenset.updateFrom
        generalize pI : pyIter = PIt
        wp_walk
        subst pI
        refine wpAny_pyIter_list il (wpAny_bind (wpAny_runValue ?_))
        have hlt : l < s.heap.objs.size := Heap.lt_size e0
        have hh3 : A.in1.in1.in1.handled = none := by simp [hh]
        have ne1 : l ≠ (s.heap.push (setObj (!w.params.followText "set-order"))).objs.size := by
          rw [Heap.size_push]
          exact Nat.ne_of_lt (Nat.lt_succ_of_lt hlt)
        have ne2 : s.heap.objs.size ∉ [(s.heap.push (setObj (!w.params.followText "set-order"))).objs.size, l] := by
          rw [Heap.size_push]
          simp only [List.mem_cons, List.not_mem_nil, or_false, not_or]
          exact And.intro (Nat.ne_of_lt (Nat.lt_succ_self _)) (Nat.ne_of_gt hlt)
        refine fill_loop ((Walks.list hh3 _ l ne1 its).toS) s.heap.objs.size ne2 (fun i => ns.getD i 0) (fun i v e => IntsAre.int_at hi i v (by rw [Array.getElem?_toList]; exact e)) room (its.size - 0) 0 _ (by omega) (Nat.zero_le _)
          ⟨⟨_, Heap.get?_push_size _ rfl, rfl, rfl⟩, il.push _⟩ (rs_fresh (Heap.get?_push_of_some _ g0)) ?_
        intro s' mv r'
        obtain ⟨h', g', d', tk', os'⟩ := s'
        have eg : g' = s.gens := mv.gens
        have ed : d' = s.drawn := mv.drawn
        have eo : os' = s.os := mv.os
        subst eg ed eo
        refine wpAny_pure (wpAny_pure ⟨rfl, h', tk', rfl, r', fun b o hb e => ?_⟩)
        refine mv.heap b o ?_ (Heap.get?_push_of_some _ (Heap.get?_push_of_some _ e))
        rw [Heap.size_push]
        simp only [List.mem_cons, List.not_mem_nil, or_false, not_or]
        exact And.intro (Nat.ne_of_lt hb) (Nat.ne_of_lt (Nat.lt_succ_of_lt hb))
      · cases r₂ with
        | error e => exact hr₂
        | ok fl₂ =>
          cases fl₂ with
          | ret r =>
            obtain ⟨rfl, h', tk, rfl, r', kp⟩ := hr₂
            repeat (any_goals (first | assumption | wp_step))
            exact h _ _ r' kp
          | _ => exact hr₂.elim
    | _ => exact hr.elim
end
end STb
namespace STb
open PySem PySem.SetTable PyProof.Rows
theorem it_slot : Slot "set_iterator" "__next__" "set_iterator.__next__" :=
  Slot.of (owner := "set_iterator") (n := "__next__") (by (rw [typeLookup_type, builtinLookup_eq_fast]); kernel_rfl) (by decide +kernel) (by decide +kernel) (by decide +kernel) (by first | (exact Or.inl (by decide +kernel)) | (exact Or.inr (by decide +kernel))) (by (rw [isSubtype_type]); kernel_rfl)
theorem it_entry : entryFor table "set_iterator.__next__" = some Builtin.«set_iterator.__next__» := entryFor_of_tree (by kernel_rfl)
theorem it_args (a : Value) : argsOk "set_iterator.__next__" ⟨[a], []⟩ := by unfold argsOk; kernel_rfl
theorem iter_entry : entryFor table "set.__iter__" = some Builtin.«frozenset.__iter__» := entryFor_alias (id' := "frozenset.__iter__") (by kernel_rfl) (by decide +kernel) (by decide +kernel) (by kernel_rfl)
theorem erase_perm {α : Type} : ∀ (l : List α) (i : Nat) (h : i < l.length), (l[i] :: l.eraseIdx i).Perm l
  | [], i, h => by cases h
  | x :: r, 0, h => List.Perm.refl _
  | x :: r, i + 1, h => (List.Perm.swap _ _ _).trans (List.Perm.cons _ (erase_perm r i (Nat.lt_of_succ_lt_succ h)))
theorem set_len_look : typeLookup (.type "set") "__len__" = pure (some (.builtin "set.__len__")) := by (rw [typeLookup_type, builtinLookup_eq_fast]); kernel_rfl
theorem set_sub_set : isSubtype (.type "set") (.type "set") = pure true := by (rw [isSubtype_type]); kernel_rfl
theorem go_perm {α : Type} (nx : Nat → Nat) : ∀ (fuel k : Nat) (left : List α) (out : Array α), left.length = fuel → (pickOrder.go nx fuel k left out).toList.Perm (out.toList ++ left)
  | 0, k, left, out, h => by
    rw [pickOrder.go]
    rw [List.length_eq_zero_iff.mp h, List.append_nil]
  | fuel + 1, k, left, out, h => by
    rw [pickOrder.go]
    have hlt : nx k % left.length < left.length := Nat.mod_lt _ (by omega)
    rw [List.getElem?_eq_getElem hlt]
    dsimp only
    refine (go_perm nx fuel (k + 1) _ _ (by rw [List.length_eraseIdx_of_lt hlt]; omega)).trans ?_
    rw [Array.toList_push, List.append_assoc]
    refine List.Perm.append_left _ ?_
    exact erase_perm left _ hlt
theorem pick_perm {α : Type} (nx : Nat → Nat) (xs : Array α) : (pickOrder nx xs).toList.Perm xs.toList := by
  have := go_perm nx xs.size 0 xs.toList #[] (by simp)
  simpa [pickOrder] using this
section
variable {prog : Program} {w : World} {A : Around} {E : Value → Shared → Prop} {s : Shared}
theorem choose_ok {src : Source} {n : Nat} {Q : Nat → Shared → Prop} (hn : n ≠ 0) (h : ∀ i d, i < n → Q i { s with drawn := d }) : wpAny (model prog w) A (choose src n) Q E s :=
  fun Γ p _ => ⟨hn, h _ _ (Nat.mod_lt _ (Nat.pos_of_ne_zero hn))⟩
theorem draw_ok : ∀ (n : Nat) (xs : List Nat) (s : Shared) (Q : List Nat → Shared → Prop), xs.length = n → (∀ ys d, ys.Perm xs → Q ys { s with drawn := d }) → wpAny (model prog w) A (drawOrder n xs) Q E s
  | 0, xs, s, Q, h, q => by
    rw [List.length_eq_zero_iff.mp h] at q ⊢
    exact wpAny_pure (q [] s.drawn (List.Perm.refl _))
  | n + 1, [], s, Q, h, q => by cases h
  | n + 1, x :: r, s, Q, h, q => by
    refine wpAny_bind (m := choose .order (x :: r).length) (choose_ok (by simp) fun i d hi => ?_)
    rw [List.getElem?_eq_getElem hi]
    dsimp only
    refine wpAny_bind (draw_ok n ((x :: r).eraseIdx i) _ _ (by rw [List.length_eraseIdx_of_lt hi]; simp at h ⊢; exact h) fun ys d' hp => ?_)
    exact wpAny_pure (q _ d' ((List.Perm.cons _ hp).trans (erase_perm _ _ hi)))
theorem byText_ok {Q : Bool → Shared → Prop} (h : Q (w.params.followText "set-order") s) : wpAny (model prog w) A setsByText Q E s := by
  unfold setsByText
  exact wpAny_bind (wpAny_askSetting (wpAny_pure h))
end
end STb
namespace STb
open PySem PySem.SetTable PyProof.Rows
abbrev itObj (first : Value) (i : Nat) (S : Addr) (n ep : Nat) : Obj := { cls := .type "set_iterator", data := .fields #[first, .int i 0, .ref S, .int n 0, .int ep 0] }
abbrev stObj (es : Array (Int × Value)) (ep : Nat) (t : SetTable) : Obj := { cls := .type "set", dict := none, data := .set es ep t }
section
variable {prog : Program} {w : World} {A : Around} {E : Value → Shared → Prop} {s : Shared} {I S : Addr} {es : Array (Int × Value)} {ep : Nat} {t : SetTable}
theorem entries_ok {Q : Array (Int × Value) → Shared → Prop} (ho : s.heap.get? S = some (stObj es ep t)) (hf : t.fits es.size = true) (h : Q es s) : wpAny (model prog w) A (setEntries S) Q E s := by
  unfold setEntries
  exact wpAny_bind (wpAny_setState_of ho rfl hf (wpAny_pure h))
end
end STb
namespace STb
open PySem PySem.SetTable PyProof.Rows
section
variable {prog : Program} {w : World} {A : Around} {E : Value → Shared → Prop} {s : Shared} {I S : Addr} {es : Array (Int × Value)} {ep : Nat} {t : SetTable}
theorem stop_ok {α : Type} {Q : α → Shared → Prop} {E' : Value → Shared → Prop} (hh : A.handled = none)
    (h : ∀ h' e, (∀ b o, s.heap.get? b = some o → h'.get? b = some o) → Shared.TypeIs { s with heap := h' } (.ref e) "StopIteration" → E' (.ref e) { s with heap := h' }) :
    wpAny (model prog w) A (do raiseNew (← newExc (.type "StopIteration") []) : Sem α) Q E' s := by
  refine wpAny_bind ?_
  simp only [newExc, newTuple]
  refine wpAny_bind (wpAny_newObj_type ?_ (by size_fits))
  refine wpAny_bind (m := firstArgMember _ _) (wpAny_of_eq (a := Value.none) (by first | rfl | (simp only [firstArgMember]; rfl)) ?_)
  refine wpAny_newObj_type ?_ (by size_fits)
  simp only [raiseNew]
  refine wpAny_bind (wpAny_handled ?_)
  rw [hh]
  refine wpAny_bind (wpAny_pure (wpAny_throw ?_))
  exact h _ _ (fun b o e => Heap.get?_push_of_some _ (Heap.get?_push_of_some _ e)) ⟨_, Heap.get?_push_size _ rfl, rfl⟩
theorem next_int_end {slot : Nat} {i : Nat} {Q : Option Value → Shared → Prop} (hh : A.handled = none) (hI : s.heap.get? I = some (itObj (.int slot 0) i S es.size ep)) (hS : s.heap.get? S = some (stObj es ep t)) (hf : t.fits es.size = true)
    (hn : ∀ (A' : Around) (E' : Value → Shared → Prop) (Q' : Option (Value × Nat) → Shared → Prop), Q' none s → wpAny (model prog w) A' (setNext S slot i ep) Q' E' s)
    (h : ∀ h', (∀ b o, b ≠ I → s.heap.get? b = some o → h'.get? b = some o) → Q none { s with heap := h' }) : wpAny (model prog w) A (pyNext (.ref I)) Q E s := by
  have ty : s.TypeIs (.ref I) "set_iterator" := ⟨_, hI, rfl⟩
  unfold pyNext
  refine wpAny_bind (wpAny_attempt (wpAny_callSpecial?_slot (name := Str.ofString "__next__") ty it_slot (wpAny_call_entry it_slot ty it_entry ?_ (it_args _))))
  unfold Builtin.«set_iterator.__next__»
  refine wpAny_bind (m := slotArgs "__next__" 0 ⟨[.ref I], []⟩) (wpAny_pure (wpAny_bind (wpAny_fieldsOf hI rfl ?_)))
  refine wpAny_bind (m := setEntries S) (entries_ok hS hf ?_)
  rw [if_neg (by simp)]
  refine wpAny_bind (m := setNext S (slot : Int).toNat (i : Int).toNat (ep : Int).toNat) (hn _ _ _ ?_)
  refine wpAny_bind (wpAny_setField hI rfl (by simp) ?_)
  refine stop_ok (by first | exact hh | simp [hh]) fun h' e kp tye => ?_
  refine wpAny_bind (wpAny_isInstance (T := "StopIteration") (b := true) tye isSubtype_stop ?_)
  exact wpAny_pure (h _ fun b o hb q => kp b o ((Heap.get?_update_other _ _ (Ne.symm hb)).trans q))
theorem next_tup {T : Addr} {places : Array Value} {pn : Nat} {i p : Nat} {tk : Tok} {Q : Option Value → Shared → Prop} (hI : s.heap.get? I = some (itObj (.ref T) i S es.size ep)) (hT : s.heap.get? T = some { cls := .type "tuple", data := .seq places pn })
    (hS : s.heap.get? S = some (stObj es ep t)) (hf : t.fits es.size = true) (hp : places[i]? = some (.int p tk)) {x : Int × Value} (hx : es[p]? = some x)
    (h : ∀ h', h'.get? I = some (itObj (.ref T) (i + 1) S es.size ep) → Heap.SameBut I s.heap h' → Q (some x.2) { s with heap := h' }) : wpAny (model prog w) A (pyNext (.ref I)) Q E s := by
  have ty : s.TypeIs (.ref I) "set_iterator" := ⟨_, hI, rfl⟩
  unfold pyNext
  refine wpAny_bind (wpAny_attempt (wpAny_callSpecial?_slot (name := Str.ofString "__next__") ty it_slot (wpAny_call_entry it_slot ty it_entry ?_ (it_args _))))
  unfold Builtin.«set_iterator.__next__»
  refine wpAny_bind (m := slotArgs "__next__" 0 ⟨[.ref I], []⟩) (wpAny_pure (wpAny_bind (wpAny_fieldsOf hI rfl ?_)))
  refine wpAny_bind (m := setEntries S) (entries_ok hS hf ?_)
  rw [if_neg (by simp)]
  refine wpAny_bind (m := seqItems? (.ref T)) (wpAny_seqItems hT rfl ?_)
  dsimp only
  rw [show places[(i : Int).toNat]? = some (.int p tk) from hp]
  dsimp only
  refine wpAny_bind (m := setNextDrawn S (p : Int).toNat (ep : Int).toNat) ?_
  unfold setNextDrawn
  refine wpAny_bind (wpAny_setState_of hS rfl hf ?_)
  dsimp only
  rw [if_neg (by simp), show es[(p : Int).toNat]? = some x from hx]
  refine wpAny_pure (wpAny_bind (wpAny_setField hI rfl (by simp) ?_))
  have g1 := Heap.get?_update_self (Obj.mapFields (·.setIfInBounds 1 (rawInt ((i : Int) + 1)))) hI rfl
  exact wpAny_pure ⟨_, rfl, wpAny_pure (h _ g1 (Heap.SameBut.update ..))⟩
theorem next_tup_end {T : Addr} {places : Array Value} {pn : Nat} {i : Nat} {Q : Option Value → Shared → Prop} (hh : A.handled = none) (hI : s.heap.get? I = some (itObj (.ref T) i S es.size ep)) (hT : s.heap.get? T = some { cls := .type "tuple", data := .seq places pn })
    (hS : s.heap.get? S = some (stObj es ep t)) (hf : t.fits es.size = true) (hp : places[i]? = none)
    (h : ∀ h', (∀ b o, b ≠ I → s.heap.get? b = some o → h'.get? b = some o) → Q none { s with heap := h' }) : wpAny (model prog w) A (pyNext (.ref I)) Q E s := by
  have ty : s.TypeIs (.ref I) "set_iterator" := ⟨_, hI, rfl⟩
  unfold pyNext
  refine wpAny_bind (wpAny_attempt (wpAny_callSpecial?_slot (name := Str.ofString "__next__") ty it_slot (wpAny_call_entry it_slot ty it_entry ?_ (it_args _))))
  unfold Builtin.«set_iterator.__next__»
  refine wpAny_bind (m := slotArgs "__next__" 0 ⟨[.ref I], []⟩) (wpAny_pure (wpAny_bind (wpAny_fieldsOf hI rfl ?_)))
  refine wpAny_bind (m := setEntries S) (entries_ok hS hf ?_)
  rw [if_neg (by simp)]
  refine wpAny_bind (m := seqItems? (.ref T)) (wpAny_seqItems hT rfl ?_)
  dsimp only
  rw [show places[(i : Int).toNat]? = none from hp]
  dsimp only
  refine wpAny_bind (wpAny_setField hI rfl (by simp) ?_)
  have g1 := Heap.get?_update_self (Obj.mapFields (·.setIfInBounds 0 (rawInt 0))) hI rfl
  refine wpAny_bind (wpAny_setField g1 rfl (by simp [Obj.mapFields]) ?_)
  refine stop_ok (by first | exact hh | simp [hh]) fun h' e kp tye => ?_
  refine wpAny_bind (wpAny_isInstance (T := "StopIteration") (b := true) tye isSubtype_stop ?_)
  exact wpAny_pure (h _ fun b o hb q => kp b o ((Heap.get?_update_other _ _ (Ne.symm hb)).trans ((Heap.get?_update_other _ _ (Ne.symm hb)).trans q)))
theorem setNext_text {slot i : Nat} {Q : Option (Value × Nat) → Shared → Prop} (hS : s.heap.get? S = some (stObj es ep t)) (hf : t.fits es.size = true) (bt : w.params.followText "set-order" = true)
    (h : Q (((pickOrder (w.params.setOrder S ep) es)[i]?).map fun e => (e.2, slot)) s) : wpAny (model prog w) A (setNext S slot i ep) Q E s := by
  unfold setNext
  refine wpAny_bind (wpAny_setState_of hS rfl hf (wpAny_bind (byText_ok ?_)))
  rw [bt, if_pos rfl, if_neg (by simp)]
  refine wpAny_bind ?_
  unfold setWalk
  refine wpAny_bind (wpAny_setState_of hS rfl hf (wpAny_bind (byText_ok ?_)))
  rw [bt, if_pos rfl]
  exact wpAny_bind (wpAny_askSetting (wpAny_pure (wpAny_pure h)))
theorem setNext_table {slot i : Nat} {Q : Option (Value × Nat) → Shared → Prop} (hS : s.heap.get? S = some (stObj es ep t)) (hf : t.fits es.size = true) (bt : w.params.followText "set-order" = false) (ld : t.led = true) (dr : (!t.plain && decide (es.size > 1)) = false)
    (h : Q (match es[SetTable.below t.place slot]?, t.place[SetTable.below t.place slot]? with | some (_, x), some j => some (x, j + 1) | _, _ => none) s) : wpAny (model prog w) A (setNext S slot i ep) Q E s := by
  unfold setNext
  refine wpAny_bind (wpAny_setState_of hS rfl hf (wpAny_bind (byText_ok ?_)))
  rw [bt, if_neg (by simp)]
  dsimp only
  split
  · rename_i z
    exfalso
    have z' : (!t.plain && decide (es.size > 1)) = true := z
    rw [dr] at z'
    cases z'
  · show wpAny (model prog w) A ((if (!t.led && !es.isEmpty) = true then unsupported "set:maker-not-led" else pure ()) >>= fun _ => pure _) Q E s
    rw [ld, if_neg (by simp)]
    exact wpAny_bind (wpAny_pure (wpAny_pure h))
end
end STb
namespace STb
open PySem PySem.SetTable PyProof.Rows
section
variable {prog : Program} {w : World} {A : Around} {E : Value → Shared → Prop} {s : Shared} {I S : Addr} {es : Array (Int × Value)} {ep : Nat} {t : SetTable}
theorem mv_of {wr : List Addr} {h' : Heap} (k : ∀ b o, b ∉ wr → s.heap.get? b = some o → h'.get? b = some o) : Moved wr Eq s { s with heap := h' } := ⟨k, rfl, rfl, rfl, Nat.le_refl _⟩
theorem self_ok {first : Value} {i n : Nat} {Q : Value → Shared → Prop} (hI : s.heap.get? I = some (itObj first i S n ep)) (h : Q (.ref I) s) : wpAny (model prog w) A (pyIter (.ref I)) Q E s := by
  have ty : s.TypeIs (.ref I) "set_iterator" := ⟨_, hI, rfl⟩
  have sl : Slot "set_iterator" "__iter__" "set_iterator.__iter__" :=
    Slot.of (owner := "set_iterator") (n := "__iter__") (by (rw [typeLookup_type, builtinLookup_eq_fast]); kernel_rfl) (by decide +kernel) (by decide +kernel) (by decide +kernel) (by first | (exact Or.inl (by decide +kernel)) | (exact Or.inr (by decide +kernel))) (by (rw [isSubtype_type]); kernel_rfl)
  have en : entryFor table "set_iterator.__iter__" = some Builtin.«dict_keyiterator.__iter__» := entryFor_alias (id' := "dict_keyiterator.__iter__") (by kernel_rfl) (by decide +kernel) (by decide +kernel) (by kernel_rfl)
  refine wpAny_pyIter_slot ty sl (wpAny_call_entry sl ty en ?_ (by unfold argsOk; kernel_rfl))
  unfold Builtin.«dict_keyiterator.__iter__»
  first
    | exact wpAny_bind (wpAny_pure (wpAny_pure ⟨_, rfl, "set_iterator", _, ty, it_slot.lookup, h⟩))
    | exact wpAny_pure ⟨_, rfl, "set_iterator", _, ty, it_slot.lookup, h⟩
theorem walk_int (hh : A.handled = none) (hIS : I ≠ S) (hf : t.fits es.size = true) (out : List Value) (ho : out.length = es.size) (ok : Nat → Nat → Prop)
    (hn : ∀ (s : Shared) (A' : Around) (E' : Value → Shared → Prop) (Q' : Option (Value × Nat) → Shared → Prop) (i slot : Nat) (x : Value), s.heap.get? S = some (stObj es ep t) → ok i slot → out[i]? = some x →
      ∃ nx, ok (i + 1) nx ∧ (Q' (some (x, nx)) s → wpAny (model prog w) A' (setNext S slot i ep) Q' E' s))
    (he : ∀ (s : Shared) (A' : Around) (E' : Value → Shared → Prop) (Q' : Option (Value × Nat) → Shared → Prop) (slot : Nat), s.heap.get? S = some (stObj es ep t) → ok es.size slot → Q' none s → wpAny (model prog w) A' (setNext S slot es.size ep) Q' E' s) :
    WalksS prog w A I [I, S] [I] Eq es.size (fun i v => out[i]? = some v) (fun i s => (∃ slot : Nat, s.heap.get? I = some (itObj (.int (slot : Int) 0) i S es.size ep) ∧ ok i slot) ∧ s.heap.get? S = some (stObj es ep t)) where
  sub := fun b hb => by simp at hb; simp [hb]
  grefl := fun _ => rfl
  gtrans := fun _ _ _ h1 h2 => h1.trans h2
  frame := fun i s h' tk st _ k => by
    obtain ⟨⟨slot, e, o⟩, e2⟩ := st
    exact ⟨⟨slot, k I (by simp) _ e, o⟩, k S (by simp) _ e2⟩
  item := fun i s Q E hi st q => by
    obtain ⟨⟨slot, e, o⟩, e2⟩ := st
    have hx : out[i]? = some out[i] := List.getElem?_eq_getElem (by omega)
    obtain ⟨nx, o', _⟩ := hn s A E (fun _ _ => True) i slot _ e2 o hx
    have hn' : ∀ (A' : Around) (E' : Value → Shared → Prop) (Q' : Option (Value × Nat) → Shared → Prop), ∃ nx, ok (i + 1) nx ∧ (Q' (some (out[i], nx)) s → wpAny (model prog w) A' (setNext S slot i ep) Q' E' s) := fun A' E' Q' => hn s A' E' Q' i slot _ e2 o hx
    unfold pyNext
    have ty : s.TypeIs (.ref I) "set_iterator" := ⟨_, e, rfl⟩
    refine wpAny_bind (wpAny_attempt (wpAny_callSpecial?_slot (name := Str.ofString "__next__") ty it_slot (wpAny_call_entry it_slot ty it_entry ?_ (it_args _))))
    unfold Builtin.«set_iterator.__next__»
    refine wpAny_bind (m := slotArgs "__next__" 0 ⟨[.ref I], []⟩) (wpAny_pure (wpAny_bind (wpAny_fieldsOf e rfl ?_)))
    refine wpAny_bind (m := setEntries S) (entries_ok e2 hf ?_)
    rw [if_neg (by simp)]
    refine wpAny_bind (m := setNext S (slot : Int).toNat (i : Int).toNat (ep : Int).toNat) ?_
    obtain ⟨nx, o', go⟩ := hn' _ _ _
    refine go ?_
    refine wpAny_bind (wpAny_setField e rfl (by simp) ?_)
    have g1 := Heap.get?_update_self (Obj.mapFields (·.setIfInBounds 0 (rawInt nx))) e rfl
    refine wpAny_bind (wpAny_setField g1 rfl (by simp [Obj.mapFields]) ?_)
    have g2 := Heap.get?_update_self (Obj.mapFields (·.setIfInBounds 1 (rawInt ((i : Int) + 1)))) g1 rfl
    have kp : ∀ b o, b ≠ I → s.heap.get? b = some o → ((s.heap.update I (Obj.mapFields (·.setIfInBounds 0 (rawInt nx)))).update I (Obj.mapFields (·.setIfInBounds 1 (rawInt ((i : Int) + 1))))).get? b = some o := fun b o hb z =>
      (Heap.get?_update_other _ _ (Ne.symm hb)).trans ((Heap.get?_update_other _ _ (Ne.symm hb)).trans z)
    exact wpAny_pure ⟨_, rfl, wpAny_pure (q _ _ hx ⟨⟨nx, g2, o'⟩, kp S _ (Ne.symm hIS) e2⟩ (mv_of fun b o hb z => kp b o (fun y => hb (by simp [y])) z))⟩
  done := fun s Q E st q => by
    obtain ⟨⟨slot, e, o⟩, e2⟩ := st
    exact next_int_end hh e e2 hf (fun A' E' Q' q' => he s A' E' Q' slot e2 o q') fun h' kp => q _ (mv_of fun b o hb z => kp b o (fun y => hb (by simp [y])) z)
  self := fun i s Q E st q => by
    obtain ⟨⟨slot, e, o⟩, e2⟩ := st
    exact self_ok e q
theorem walk_tup {T : Addr} {places : List Nat} {pn : Nat} (hh : A.handled = none) (hIS : I ≠ S) (hIT : I ≠ T) (hf : t.fits es.size = true) (out : List Value) (hl : places.length = es.size) (ho : ∀ (i p : Nat), places[i]? = some p → ∃ x, es[p]? = some x ∧ out[i]? = some x.2) :
    WalksS prog w A I [I, S, T] [I] Eq es.size (fun i v => out[i]? = some v) (fun i s => s.heap.get? I = some (itObj (.ref T) i S es.size ep) ∧ s.heap.get? S = some (stObj es ep t) ∧ s.heap.get? T = some { cls := .type "tuple", data := .seq (places.map fun (p : Nat) => rawInt p).toArray pn }) where
  sub := fun b hb => by simp at hb; simp [hb]
  grefl := fun _ => rfl
  gtrans := fun _ _ _ h1 h2 => h1.trans h2
  frame := fun i s h' tk st _ k => by
    obtain ⟨e, e2, e3⟩ := st
    exact ⟨k I (by simp) _ e, k S (by simp) _ e2, k T (by simp) _ e3⟩
  item := fun i s Q E hi st q => by
    obtain ⟨e, e2, e3⟩ := st
    have hp : places[i]? = some places[i] := List.getElem?_eq_getElem (by omega)
    obtain ⟨x, hx, hy⟩ := ho i _ hp
    refine next_tup (p := places[i]) (tk := 0) e e3 e2 hf (by rw [List.getElem?_toArray, List.getElem?_map, hp]; rfl) hx fun h' g sb => ?_
    exact q _ _ hy ⟨g, sb.extBut _ _ (Ne.symm hIS) e2, sb.extBut _ _ (Ne.symm hIT) e3⟩ (mv_of fun b o hb z => sb.extBut b o (fun y => hb (by simp [y])) z)
  done := fun s Q E st q => by
    obtain ⟨e, e2, e3⟩ := st
    exact next_tup_end hh e e3 e2 hf (by simp [hl]) fun h' kp => q _ (mv_of fun b o hb z => kp b o (fun y => hb (by simp [y])) z)
  self := fun i s Q E st q => self_ok st.1 q
end
end STb
namespace STb
open PySem PySem.SetTable PyProof.Rows
section
variable {prog : Program} {w : World} {A : Around} {E : Value → Shared → Prop} {s : Shared} {I S : Addr} {es : Array (Int × Value)} {ep : Nat} {t : SetTable}
theorem drawn_ok {Q : Bool → Shared → Prop} (hS : s.heap.get? S = some (stObj es ep t)) (hf : t.fits es.size = true) (h : Q (!w.params.followText "set-order" && (!t.plain && decide (es.size > 1))) s) : wpAny (model prog w) A (setDrawn S) Q E s := by
  unfold setDrawn
  exact wpAny_bind (wpAny_setState_of hS rfl hf (wpAny_bind (byText_ok (wpAny_pure h))))
theorem iter_slot : Slot "set" "__iter__" "set.__iter__" := PySem.F.slot_set_iter
theorem iter_ok {ns : List Int} {Q : Value → Shared → Prop} (hh : A.handled = none) (r : RS prog w s.heap S ns)
    (h : ∀ (I : Addr) (fp : List Addr) (n : Nat) (out : List Value) (ms : List Int) (St : Nat → Shared → Prop) (s' : Shared), (∀ A' : Around, A'.handled = none → WalksS prog w A' I fp [I] Eq n (fun i v => out[i]? = some v) St) → St 0 s' → I ∈ fp → (∀ b ∈ fp, b < s'.heap.objs.size) → (∀ b ∈ fp, b = S ∨ s.heap.objs.size ≤ b) → s.heap.objs.size ≤ I →
      IntsAre out ms → ms.Perm ns → out.length = n → (∀ b o, s.heap.get? b = some o → s'.heap.get? b = some o) → s'.gens = s.gens → s'.os = s.os → s.toks ≤ s'.toks → Q (.ref I) s') :
    wpAny (model prog w) A (pyIter (.ref S)) Q E s := by
  obtain ⟨es, ep, t, hS, el, pm, bd, ft, rs, ld, nd⟩ := r
  have ty : s.TypeIs (.ref S) "set" := ⟨_, hS, rfl⟩
  have intsOf : ∀ l : List (Int × Value), (∀ e ∈ l, ∃ k, kI e.2 = some k) → ∃ ms, IntsAre (l.map (·.2)) ms ∧ l.map (fun e => kI e.2) = ms.map some := fun l => by
    induction l with
    | nil => intro _; exact ⟨[], .nil, rfl⟩
    | cons e l ih =>
      intro q
      obtain ⟨ms, a, b⟩ := ih fun x hx => q x (List.mem_cons_of_mem _ hx)
      obtain ⟨k, hk⟩ := q e List.mem_cons_self
      obtain ⟨hsh, v⟩ := e
      cases v <;> first
        | (rename_i m tk; cases hk; exact ⟨_ :: ms, .cons _ _ a, by rw [List.map_cons, List.map_cons, b]; rfl⟩)
        | cases hk
  have allk : ∀ e ∈ es.toList, ∃ k, kI e.2 = some k := fun e he => by
    obtain ⟨⟨k, q, _⟩, _⟩ := el e he
    exact ⟨k, kI_is.mp q⟩
  have perm : ∀ l : List (Int × Value), l.Perm es.toList → ∃ ms, IntsAre (l.map (·.2)) ms ∧ ms.Perm ns := fun l hp => by
    obtain ⟨ms, a, b⟩ := intsOf l fun e he => allk e (hp.mem_iff.mp he)
    refine ⟨ms, a, ?_⟩
    have q : (ms.map some).Perm (ns.map some) := by
      rw [← b]
      exact (hp.map _).trans pm
    have q' := q.map (fun o : Option Int => o.getD 0)
    simpa [List.map_map, Function.comp_def] using q'
  have plc : t.place.size = es.size := by
    simp only [SetTable.fits, Bool.and_eq_true, beq_iff_eq] at ft
    exact ft.1
  refine wpAny_pyIter_slot ty iter_slot (wpAny_call_entry iter_slot ty iter_entry ?_ (PySem.F.args_set_iter_1 _))
  unfold Builtin.«frozenset.__iter__»
  refine wpAny_bind (m := Builtin.Frozenset.slot0 "__iter__" ⟨[.ref S], []⟩) (wpAny_bind (wpAny_pure (wpAny_pure ?_)))
  refine wpAny_bind (m := Builtin.Frozenset.sizeOf S) (wpAny_bind (entries_ok hS ft (wpAny_pure ?_)))
  refine wpAny_bind (m := setDrawn S) (drawn_ok hS ft ?_)
  have hlt : S < s.heap.objs.size := Heap.lt_size hS
  cases bt : w.params.followText "set-order" with
  | true =>
    rw [if_neg (by simp)]
    refine wpAny_bind (wpAny_pure (wpAny_bind (wpAny_setEpoch_of hS rfl ft (wpAny_bind (wpAny_newObj_type (wpAny_pure ⟨_, rfl, "set_iterator", _, ⟨_, Heap.get?_push_size _ rfl, rfl⟩, it_slot.lookup, ?_⟩))))))
    obtain ⟨ms, a, b⟩ := perm _ (pick_perm (w.params.setOrder S ep) es)
    have lo : ((pickOrder (w.params.setOrder S ep) es).toList.map (·.2)).length = es.size := by rw [List.length_map, (pick_perm _ _).length_eq, Array.length_toList]
    refine h s.heap.objs.size [s.heap.objs.size, S] es.size _ ms _ _ (fun A' hA' => walk_int (t := t) (ep := ep) hA' (Nat.ne_of_gt hlt) ft _ lo (fun _ _ => True) (fun s A' E' Q' i slot x e _ hx => ⟨slot, trivial, fun q => setNext_text e ft bt ?_⟩) fun s A' E' Q' slot e _ q => setNext_text e ft bt ?_)
      ⟨⟨0, Heap.get?_push_size _ rfl, trivial⟩, Heap.get?_push_of_some _ hS⟩ (by simp) (fun b hb => ?_) (fun b hb => (List.mem_cons.mp hb).elim (fun z => .inr (Nat.le_of_eq z.symm)) fun z => .inl (List.mem_singleton.mp z)) (Nat.le_refl _) a b lo (fun b o e => Heap.get?_push_of_some _ e) rfl rfl (Nat.le_refl _)
    · rw [List.getElem?_map, Array.getElem?_toList] at hx
      cases z : (pickOrder (w.params.setOrder S ep) es)[i]? with
      | none => rw [z] at hx; cases hx
      | some y => rw [z] at hx; cases hx; exact q
    · rw [Array.getElem?_eq_none (by rw [← Array.length_toList, (pick_perm _ _).length_eq, Array.length_toList]; exact Nat.le_refl _)]
      exact q
    · rw [Heap.size_push]
      rcases List.mem_cons.mp hb with z | z
      · rw [z]; exact Nat.lt_succ_self _
      · rw [List.mem_singleton.mp z]; exact Nat.lt_succ_of_lt hlt
  | false =>
    rw [bt] at ld
    cases dr : (!t.plain && decide (es.size > 1)) with
    | false =>
      rw [if_neg (by simp)]
      refine wpAny_bind (wpAny_pure (wpAny_bind (wpAny_setEpoch_of hS rfl ft (wpAny_bind (wpAny_newObj_type (wpAny_pure ⟨_, rfl, "set_iterator", _, ⟨_, Heap.get?_push_size _ rfl, rfl⟩, it_slot.lookup, ?_⟩))))))
      obtain ⟨ms, a, b⟩ := perm _ (List.Perm.refl _)
      have lo : (es.toList.map (·.2)).length = es.size := by rw [List.length_map, Array.length_toList]
      refine h s.heap.objs.size [s.heap.objs.size, S] es.size _ ms _ _ (fun A' hA' => walk_int (t := t) (ep := ep) hA' (Nat.ne_of_gt hlt) ft _ lo (fun i slot => SetTable.below t.place slot = i) (fun s A' E' Q' i slot x e o hx => ?_) fun s A' E' Q' slot e o q => setNext_table e ft bt ld dr ?_)
        ⟨⟨0, Heap.get?_push_size _ rfl, below_zero rs⟩, Heap.get?_push_of_some _ hS⟩ (by simp) (fun b hb => ?_) (fun b hb => (List.mem_cons.mp hb).elim (fun z => .inr (Nat.le_of_eq z.symm)) fun z => .inl (List.mem_singleton.mp z)) (Nat.le_refl _) a b lo (fun b o e => Heap.get?_push_of_some _ e) rfl rfl (Nat.le_refl _)
      · rw [List.getElem?_map, Array.getElem?_toList] at hx
        have hi : i < es.size := by
          rcases Nat.lt_or_ge i es.size with z | z
          · exact z
          · rw [Array.getElem?_eq_none z] at hx; cases hx
        have hp : t.place[i]? = some t.place[i] := by simp [plc, hi]
        refine ⟨t.place[i] + 1, below_next rs hp, fun q => setNext_table e ft bt ld dr ?_⟩
        rw [o, hp]
        cases z : es[i]? with
        | none => rw [z] at hx; cases hx
        | some y => rw [z] at hx; cases hx; exact q
      · rw [o, Array.getElem?_eq_none (Nat.le_refl _)]
        exact q
      · rw [Heap.size_push]
        rcases List.mem_cons.mp hb with z | z
        · rw [z]; exact Nat.lt_succ_self _
        · rw [List.mem_singleton.mp z]; exact Nat.lt_succ_of_lt hlt
    | true =>
      rw [if_pos (by simp)]
      refine wpAny_bind (draw_ok es.size (List.range es.size) s _ (by simp) fun ys d hp => wpAny_bind ?_)
      have ly : ys.length = es.size := by rw [hp.length_eq]; simp
      refine wpAny_newTuple ?_ (by rw [List.length_map, ly]; exact fits_of_scanBound bd)
      refine wpAny_bind (wpAny_setEpoch_of (o := stObj es ep t) (Heap.get?_push_of_some _ hS) rfl ft (wpAny_bind (wpAny_newObj_type (wpAny_pure ⟨_, rfl, "set_iterator", _, ⟨_, Heap.get?_push_size _ rfl, rfl⟩, it_slot.lookup, ?_⟩))))
      have hy : ∀ p ∈ ys, p < es.size := fun p hm => List.mem_range.mp (hp.mem_iff.mp hm)
      have pl : (ys.map fun p => es.getD p (0, .none)).Perm es.toList := by
        have e : es.toList = (List.range es.size).map fun p => es.getD p (0, .none) := by
          refine List.ext_getElem (by simp) fun i h1 h2 => ?_
          have : i < es.size := by simpa using h1
          simp [Array.getD, this]
        rw [e]
        exact hp.map _
      obtain ⟨ms, a, b⟩ := perm _ pl
      have n1 : (s.heap.push { cls := Value.type "tuple", data := Data.seq (ys.map fun (p : Nat) => rawInt p).toArray }).objs.size = s.heap.objs.size + 1 := Heap.size_push ..
      refine h _ [_, S, s.heap.objs.size] es.size _ ms _ _ (fun A' hA' => walk_tup (T := s.heap.objs.size) (pn := 0) (t := t) (ep := ep) hA' (by rw [n1]; exact Nat.ne_of_gt (Nat.lt_succ_of_lt hlt)) (by rw [n1]; exact Nat.ne_of_gt (Nat.lt_succ_self _)) ft _ ly fun i p hip => ?_)
        ⟨Heap.get?_push_size _ rfl, Heap.get?_push_of_some _ (Heap.get?_push_of_some _ hS), Heap.get?_push_of_some _ (Heap.get?_push_size _ rfl)⟩ (by simp) (fun b hb => ?_) (fun b hb => ?_) (by rw [n1]; exact Nat.le_succ _) a b (by rw [List.length_map, List.length_map, ly]) (fun b o e => Heap.get?_push_of_some _ (Heap.get?_push_of_some _ e)) rfl rfl (Nat.le_refl _)
      · have hm := hy p (List.mem_of_getElem? hip)
        refine ⟨es[p], by simp [hm], ?_⟩
        rw [List.getElem?_map, List.getElem?_map, hip]
        simp [Array.getD, hm]
      · rw [Heap.size_push, n1]
        simp only [List.mem_cons, List.not_mem_nil, or_false] at hb
        rcases hb with z | z | z
        · rw [z]
          exact Nat.lt_of_le_of_lt (Nat.le_of_eq n1) (Nat.lt_succ_self _)
        · rw [z]; exact Nat.lt_succ_of_lt (Nat.lt_succ_of_lt hlt)
        · rw [z]; exact Nat.lt_succ_of_lt (Nat.lt_succ_self _)
      · simp only [List.mem_cons, List.not_mem_nil, or_false] at hb
        rcases hb with z | z | z
        · right
          rw [z, n1]
          exact Nat.le_succ _
        · exact .inl z
        · exact .inr (Nat.le_of_eq z.symm)
end
end STb
namespace STb
open PySem PySem.SetTable PyProof.Rows
section
variable {prog : Program} {w : World} {A : Around} {E : Value → Shared → Prop} {s : Shared} {I S : Addr}
theorem ints_of_items {out : List Value} {n : Nat} (ho : out.length = n) {acc : Array Value} (h : ItemsOf (fun i v => out[i]? = some v) acc n) : acc.toList = out := by
  refine List.ext_getElem? fun i => ?_
  rw [Array.getElem?_toList]
  rcases Nat.lt_or_ge i n with z | z
  · have hs : i < acc.size := by rw [h.1]; exact z
    have := h.2 i acc[i] (by simp [hs])
    rw [this]
    simp [hs]
  · rw [Array.getElem?_eq_none (by rw [h.1]; exact z), List.getElem?_eq_none (by omega)]
theorem collect_set {ns : List Int} {Q : List Value → Shared → Prop} (hh : A.handled = none) (r : RS prog w s.heap S ns)
    (h : ∀ (s' : Shared) (vs : List Value) (ms : List Int), IntsAre vs ms → ms.Perm ns → (∀ b o, s.heap.get? b = some o → s'.heap.get? b = some o) → s.heap.objs.size < s'.heap.objs.size → s'.gens = s.gens → s'.os = s.os → Q vs s') :
    wpAny (model prog w) A (collect (.ref S)) Q E s := by
  have hlen := r.len
  have hSlt : S < s.heap.objs.size := by
    obtain ⟨es, ep, t, e, _⟩ := r
    exact Heap.lt_size e
  unfold collect
  refine wpAny_bind (wpAny_runValue (codeAny_builtin F.entry_proto_collect ?_))
  rw [Around.under_plainId F.plain_proto_collect _]
  refine wpAny_bind (m := newList []) (wpAny_newObj_type ?_)
  refine wpAny_pure ⟨plainId_quiet F.plain_list_iadd _, codeAny_builtin F.entry_list_iadd ?_⟩
  rw [Around.under_plainId F.plain_list_iadd _]
  have r1 : RS prog w (s.heap.push { cls := .type "list", data := .seq ([] : List Value).toArray }) S ns := r.keep fun o e => Heap.get?_push_of_some _ e
  have ty1 : Shared.TypeIs { s with heap := s.heap.push { cls := .type "list", data := .seq ([] : List Value).toArray } } (.ref S) "set" := by
    obtain ⟨es, ep, t, e, _⟩ := r1
    exact ⟨_, e, rfl⟩
  show wpAny _ A.in1 (Builtin.List.listExtendWith (.ref s.heap.objs.size) (.ref S) (.ref s.heap.objs.size)) _ _ _
  unfold Builtin.List.listExtendWith
  refine wpAny_bind (wpAny_typeOf ty1 ?_)
  have d1 : Builtin.List.listSameRef (.ref s.heap.objs.size) (.ref S) = false := by
    simp only [Builtin.List.listSameRef, beq_eq_false_iff_ne, ne_eq]
    exact Nat.ne_of_gt hSlt
  have d2 : (Value.type "set" == Value.type "list") = false := by decide
  have d3 : (Value.type "set" == Value.type "tuple") = false := by decide
  simp only [d1, d2, d3, Bool.or_false, Bool.false_eq_true, if_false]
  have hh1 : A.in1.handled = none := by simp [hh]
  refine wpAny_bind (iter_ok hh1 r1 fun I fp n out ms St s2 W st0 hI hfp hfs hge hi hp ho kp eg eo htk => ?_)
  have ty2 : s2.TypeIs (.ref S) "set" := by
    obtain ⟨es, ep, t, e, _⟩ := r1
    exact ⟨_, kp _ _ e, rfl⟩
  refine wpAny_bind (wpAny_holding ?_)
  unfold Builtin.List.listLengthHint
  refine wpAny_bind (wpAny_specialOf ty2 set_len_look ?_)
  refine wpAny_bind (m := isInstance (.ref S) (.type "set")) (wpAny_isInstance ty2 set_sub_set ?_)
  simp only [Bool.not_true, Bool.false_eq_true, if_false]
  refine wpAny_ite_split (fun _ => ?_) (fun z => absurd (by decide +kernel) z)
  refine wpAny_bind (wpAny_typeOf ty2 (wpAny_pure ?_))
  refine wpAny_ite_split (fun _ => ?_) (fun z => absurd (by decide +kernel) z)
  refine wpAny_bind (wpAny_rule ?_)
  have g0 : (s.heap.push { cls := .type "list", data := .seq ([] : List Value).toArray }).get? s.heap.objs.size = some { cls := .type "list", data := .seq ([] : List Value).toArray } := Heap.get?_push_size _ rfl
  have g2 := kp _ _ g0
  have Iout : s.heap.objs.size < I := by
    rw [Heap.size_push] at hge
    exact hge
  refine wpAny_bind (m := Builtin.List.listTouch (.ref s.heap.objs.size)) ?_
  refine wpAny_bind (m := updateSeq s.heap.objs.size (·.push .none)) (wpAny_updateSeq g2 rfl ?_)
  have g3 := Heap.get?_update_self (Obj.mapSeq (·.push Value.none)) g2 rfl
  refine wpAny_updateSeq g3 rfl ?_
  have g4 := Heap.get?_update_self (Obj.mapSeq (·.pop)) g3 rfl
  have oth : ∀ b o, b ≠ s.heap.objs.size → s2.heap.get? b = some o → ((s2.heap.update s.heap.objs.size (Obj.mapSeq (·.push Value.none))).update s.heap.objs.size (Obj.mapSeq (·.pop))).get? b = some o :=
    fun b o hb e => (Heap.get?_update_other _ _ (Ne.symm hb)).trans ((Heap.get?_update_other _ _ (Ne.symm hb)).trans e)
  have hSf : s.heap.objs.size ∉ fp := fun z => by
    rcases hfs _ z with y | y
    · exact absurd hSlt (by rw [← y]; exact Nat.lt_irrefl _)
    · rw [Heap.size_push] at y
      exact Nat.lt_irrefl _ y
  have W1 := W A.in1 (by simp [hh])
  have hn : n ≤ sizeLine := by
    have e1 := hi.length
    have e2 := hp.length_eq
    have := fits_of_scanBound hlen
    omega
  refine wpAny_pure ⟨plainId_quiet F.plain_extend_loop _, codeAny_extend_loopS W1 hn _ hSf _ n 0 _ _ _ rfl (Nat.zero_le _) (W1.frame 0 s2 _ s2.toks st0 (Nat.le_refl _) fun b hb o e => oth b o (fun z => hSf (z ▸ hb)) e) g4 (ItemsOf.nil _) fun s3 acc c mv gS hacc => ?_⟩
  refine wpAny_bind (wpAny_load gS (wpAny_pure ?_))
  rw [ints_of_items ho hacc]
  refine h s3 out ms hi hp (fun b o e => ?_) (Heap.lt_size gS) (mv.gens.symm.trans eg) (mv.os.trans eo)
  have hb : b ≠ s.heap.objs.size := Nat.ne_of_lt (Heap.lt_size e)
  have hbI : b ≠ I := Nat.ne_of_lt (Nat.lt_trans (Heap.lt_size e) Iout)
  exact mv.heap b o (by simp only [List.mem_cons, List.not_mem_nil, or_false, not_or]; exact ⟨hb, hbI⟩) (oth b o hb (kp b o (Heap.get?_push_of_some _ e)))
end
end STb
namespace STb
open PySem PySem.SetTable PyProof.Rows
section
variable {prog : Program} {w : World} {A : Around} {E : Value → Shared → Prop} {s : Shared} {I S : Addr}
theorem sorted_set {ns : List Int} {Q : Value → Shared → Prop} (hh : A.handled = none) (r : RS prog w s.heap S ns) (hbig : ns.length ≤ 63)
    (h : ∀ (l : Addr) (vs : List Value) (ms : List Int) (n : Nat) (s' : Shared), IntsAre vs ms → ms.Perm ns → ms.Pairwise (· ≤ ·) → s.heap.objs.size ≤ l → s'.heap.get? l = some { cls := .type "list", data := .seq vs.toArray n } →
      (∀ b o, s.heap.get? b = some o → s'.heap.get? b = some o) → s'.gens = s.gens → s'.os = s.os → Q (.ref l) s') :
    wpAny (model prog w) A (call (.builtin "sorted") [.ref S]) Q E s := by
  refine Calls.call_function_entry kind_sorted plain_sorted entry_sorted (args_sorted1 _) ?_
  unfold Builtin.«sorted»
  refine wpAny_bind (m := checkCount "sorted" 1 1 _) (wpAny_pure ?_)
  have hhs : ∀ {A' : Around}, A'.handled = A.handled → A'.handled = none := fun e => e.trans hh
  refine wpAny_bind (collect_set (by first | exact hh | simp [hh]) r fun s1 vs ms hi hp kp szl eg eo => ?_)
  have hv : vs.length ≤ 63 := by
    have e1 := hi.length
    have e2 := hp.length_eq
    omega
  have hz : vs.length ≤ sizeLine := Nat.le_trans hv (by decide)
  refine wpAny_bind (wpAny_newList ?_ hz)
  have g1 : (s1.heap.push (seqObj "list" vs.toArray 0)).get? s1.heap.objs.size = some (seqObj "list" vs.toArray 0) := Heap.get?_push_size _ rfl
  refine wpAny_bind (wpAny_holding (wpAny_call_entry slot_list_sort ⟨_, g1, rfl⟩ entry_list_sort (Tim.sort_any g1 hi hv fun out ns' a1 a2 a3 => ⟨_, rfl, ?_⟩) (args_list_sort _)))
  obtain ⟨e, he⟩ : ∃ e, (sortedHeap (s1.heap.push (seqObj "list" vs.toArray 0)) s1.heap.objs.size vs out).get? s1.heap.objs.size = some (seqObj "list" out e) := sortedHeap_at g1
  have hle : s.heap.objs.size ≤ s1.heap.objs.size := Nat.le_of_lt szl
  refine wpAny_pure ⟨_, rfl, h _ out.toList ns' e _ a1 (a2.trans hp) a3 hle (by rw [Array.toArray_toList]; exact he) (fun b o q => ?_) eg eo⟩
  have q1 := kp b o q
  have hb : b < s1.heap.objs.size := Heap.lt_size q1
  show (sortedHeap (s1.heap.push (seqObj "list" vs.toArray 0)) s1.heap.objs.size vs out).get? b = some o
  rw [sortedHeap_old (Nat.ne_of_lt hb) (by rw [size_push']; exact Nat.lt_succ_of_lt hb)]
  exact Heap.get?_push_of_some _ q1
end
end STb
namespace L2
open PySem PySem.Spec PyProof.Rows STb
def setHO (P : Program) (w : World) (a : Addr) (ns : List Int) : HO := .ext fun h => RS P w h a ns
def dedup (ns : List Int) : List Int := ns.foldl addTo []
theorem metBy_dedup (ns : List Int) : metBy (fun i => ns.getD i 0) ns.length = dedup ns := by
  unfold metBy dedup
  congr 1
  refine List.ext_getElem (by simp) fun i h1 h2 => ?_
  have : i < ns.length := by simpa using h1
  simp [List.getD, this]
theorem mem_dedup {ns : List Int} {k : Int} : k ∈ dedup ns ↔ k ∈ ns := by
  have key : ∀ (l acc : List Int), k ∈ l.foldl addTo acc ↔ k ∈ acc ∨ k ∈ l := fun l => by
    induction l with
    | nil => intro acc; simp
    | cons x r ih =>
      intro acc
      rw [List.foldl_cons, ih, addTo_mem, List.mem_cons, or_assoc]
  rw [dedup, key]
  simp
theorem nodup_dedup (ns : List Int) : (dedup ns).Nodup := by
  have key : ∀ (l acc : List Int), acc.Nodup → (l.foldl addTo acc).Nodup := fun l => by
    induction l with
    | nil => intro acc h; exact h
    | cons x r ih => intro acc h; exact ih _ (addTo_nd h)
  exact key ns [] List.nodup_nil
theorem dedup_len (ns : List Int) : (dedup ns).length ≤ ns.length := by
  rw [← metBy_dedup]
  exact metBy_len _ _
theorem metBy_nodup (val : Nat → Int) : ∀ i, (metBy val i).Nodup
  | 0 => by simp [metBy]
  | i + 1 => by
    rw [metBy_succ]
    exact addTo_nd (metBy_nodup val i)
theorem few_nat : ∀ (n : Nat) (L : List Nat), L.Nodup → (∀ x ∈ L, x < n) → L.length ≤ n
  | 0, L, _, h => by
    cases L with
    | nil => exact Nat.le_refl _
    | cons a r => exact absurd (h a (by simp)) (by omega)
  | n + 1, L, hn, h => by
    by_cases hm : n ∈ L
    · have h1 := few_nat n (L.erase n) (hn.erase n) fun x hx => by
        obtain ⟨h2, h3⟩ := hn.mem_erase_iff.mp hx
        have := h x h3
        omega
      rw [List.length_erase_of_mem hm] at h1
      omega
    · have := few_nat n L hn fun x hx => by
        have := h x hx
        have : x ≠ n := fun z => hm (z ▸ hx)
        omega
      omega
theorem few_of {L : List Int} (hn : L.Nodup) (h : ∀ z ∈ L, 0 ≤ z ∧ z < 1000) : L.length ≤ 1000 := by
  have := few_nat 1000 (L.map Int.toNat) (by
    unfold List.Nodup
    rw [List.pairwise_map]
    refine List.Pairwise.imp_of_mem (fun {a b} ha hb e => ?_) hn
    have := h a ha
    have := h b hb
    omega) fun x hx => by
    obtain ⟨z, hz, rfl⟩ := List.mem_map.mp hx
    have := h z hz
    omega
  simpa using this
section
variable {X : Cx} {P : Program} {w : World} {K : PySem.W.Frag}
def rMkSetB (P : Program) (w : World) (K : PySem.W.Frag) : List V → Hp → VK → Prop := fun xs H Q => ∃ (p : Addr) (ns : List Int), xs = [.ref p] ∧ SqL K H p (ns.map V.int) ∧ (ns.length ≤ 1000 ∨ ∀ z ∈ ns, 0 ≤ z ∧ z < 1000) ∧ ∀ a, H a = none → Q (.ref a) (upd H a (setHO P w a (dedup ns)))
theorem call_setB (hP : X.prog = P) (hw : X.w = w) (hK : X.K = K) (hc : X.calm = true) : CallR X (.type "set") (rMkSetB P w K) := by
  subst hP hw hK
  intro pins s σ H xs us Q I r h
  obtain ⟨p, ns, rfl, hq, hl, q⟩ := h
  obtain ⟨u, rfl, ru⟩ := vals1 r
  cases ru
  obtain ⟨its, rv, pl, hz⟩ := I.list hq
  have hi : IntsAre its ns := intsAre_of rv
  have hle := hi.length
  have few : ∀ i, i ≤ its.toArray.size → (metBy (fun i => ns.getD i 0) i).length + 1 < scanBound := fun i hi' => by
    show _ < 4096
    rw [List.size_toArray] at hi'
    rcases hl with hl | hl
    · have := metBy_len (fun i => ns.getD i 0) i
      omega
    · have h1 : ∀ i, i ≤ ns.length → (metBy (fun i => ns.getD i 0) i).Nodup := fun i _ => metBy_nodup _ i
      have h2 := few_of (h1 i (by omega)) fun z hz => by
        obtain ⟨j, hj, rfl⟩ := (metBy_mem _ _ _).mp hz
        have hj2 : j < ns.length := by omega
        rw [List.getD_eq_getElem?_getD, List.getElem?_eq_getElem hj2]
        exact hl _ (List.getElem_mem hj2)
      omega
  refine call_setR (I.ok.hd hc) pl.isList (by simpa using hi) few fun h' tk rs kp => ?_
  have em : metBy (fun i => ns.getD i 0) its.toArray.size = dedup ns := by
    have e : its.toArray.size = ns.length := by simp [hle]
    rw [e, metBy_dedup]
  rw [em] at rs
  refine ⟨.ref _, _, I.laid (a := s.heap.objs.size) (o := setHO X.prog X.w s.heap.objs.size (dedup ns)) (t' := tk) (fun b o e => kp b o (Heap.lt_size e) e) (Nat.le_refl _) ⟨rs, ?_, fun h1 h2 r1 k => r1.keep k⟩, rfl, q _ I.fresh⟩
  obtain ⟨es, ep, t, e, _⟩ := rs
  exact ⟨_, e⟩
def rMkSet (P : Program) (w : World) (K : PySem.W.Frag) : List V → Hp → VK → Prop := fun xs H Q => ∃ (p : Addr) (ns : List Int), xs = [.ref p] ∧ SqL K H p (ns.map V.int) ∧ ns.length ≤ 1000 ∧ ∀ a, H a = none → Q (.ref a) (upd H a (setHO P w a (dedup ns)))
theorem call_setK (hP : X.prog = P) (hw : X.w = w) (hK : X.K = K) (hc : X.calm = true) : CallR X (.type "set") (rMkSet P w K) := by
  intro pins s σ H xs us Q I r h
  obtain ⟨p, ns, e, hq, hl, q⟩ := h
  exact call_setB hP hw hK hc pins s σ H xs us Q I r ⟨p, ns, e, hq, .inl hl, q⟩
def rSortS (P : Program) (w : World) : List V → Hp → VK → Prop := fun xs H Q => ∃ (a : Addr) (ns : List Int), xs = [.ref a] ∧ H a = some (setHO P w a ns) ∧ ns.length ≤ 63 ∧ ∀ (l : Addr) (ms : List Int), H l = none → ms.Perm ns → ms.Pairwise (· ≤ ·) → Q (.ref l) (upd H l (.lst (ms.map V.int)))
theorem call_sortS (hP : X.prog = P) (hw : X.w = w) (hc : X.calm = true) : CallR X (.builtin "sorted") (rSortS P w) := by
  subst hP hw
  intro pins s σ H xs us Q I r h
  obtain ⟨a, ns, rfl, ha, hl, q⟩ := h
  obtain ⟨u, rfl, ru⟩ := vals1 r
  cases ru
  have rs : RS X.prog X.w s.heap a ns := (I.hok a _ ha).1
  refine sorted_set (I.ok.hd hc) rs hl fun l vs ms n s' hi hp pw hle g kp eg eo => ?_
  obtain ⟨h', g', d', t', o'⟩ := s'
  have e1 : o' = s.os := eo
  have e2 : g' = s.gens := eg
  subst e1 e2
  have hn : H l = none := I.hok.fresh hle
  have e3 := hi.length
  have e4 := hp.length_eq
  have hok := I.hok.laid (h' := h') (a := l) (o := .lst (ms.map V.int)) kp hle ⟨by rw [List.length_map]; exact Nat.le_trans (show ms.length ≤ 63 by omega) (by decide), vs, n, vals_ints hi, g⟩
  refine ⟨.ref l, _, I.call' (s' := ⟨h', s.gens, d', t', s.os⟩) (ch := []) rfl (Un.laid kp hle hn) hok I.bare (fun _ z => nomatch z), rfl, q l ms hn hp pw⟩
def rSortL (K : PySem.W.Frag) : List V → Hp → VK → Prop := fun xs H Q => ∃ (p : Addr) (ns : List Int), xs = [.ref p] ∧ SqL K H p (ns.map V.int) ∧ ns.length ≤ 63 ∧ ∀ (l : Addr) (ms : List Int), H l = none → ms.Perm ns → ms.Pairwise (· ≤ ·) → Q (.ref l) (upd H l (.lst (ms.map V.int)))
theorem call_sortL (hK : X.K = K) : CallR X (.builtin "sorted") (rSortL K) := by
  subst hK
  intro pins s σ H xs us Q I r h
  obtain ⟨p, ns, rfl, hq, hl, q⟩ := h
  obtain ⟨u, rfl, ru⟩ := vals1 r
  cases ru
  obtain ⟨its, rv, pl, hz⟩ := I.list hq
  have hi : IntsAre its ns := intsAre_of rv
  have hle := hi.length
  refine Tim.sorted_any pl.isList hi (by omega) fun out ms a1 a2 a3 => ?_
  obtain ⟨e, he⟩ := sortedAll_at s.heap its out
  have hn : H (s.heap.objs.size + 1) = none := I.hok.fresh (Nat.le_succ _)
  have e4 := a2.length_eq
  refine ⟨.ref _, _, I.laid (a := s.heap.objs.size + 1) (o := .lst (ms.map V.int)) (t' := s.toks) (fun b o z => sortedAll_old z) (Nat.le_succ _) ⟨by rw [List.length_map]; exact Nat.le_trans (show ms.length ≤ 63 by omega) (by decide), out.toList, e, vals_ints a1, by rw [Array.toArray_toList]; exact he⟩, rfl, q _ ms hn a2 a3⟩
def rSortX (P : Program) (w : World) (K : PySem.W.Frag) : List V → Hp → VK → Prop := fun xs H Q => ∃ (a : Addr) (ns : List Int), xs = [.ref a] ∧ (SqL K H a (ns.map V.int) ∨ H a = some (setHO P w a ns)) ∧ ns.length ≤ 63 ∧
  ∀ (l : Addr) (ms : List Int), H l = none → ms.Perm ns → ms.Pairwise (· ≤ ·) → Q (.ref l) (upd H l (.lst (ms.map V.int)))
theorem call_sortX (hP : X.prog = P) (hw : X.w = w) (hK : X.K = K) (hc : X.calm = true) : CallR X (.builtin "sorted") (rSortX P w K) := by
  intro pins s σ H xs us Q I r h
  obtain ⟨a, ns, rfl, h1 | h1, hl, q⟩ := h
  · exact call_sortL hK pins s σ H _ us Q I r ⟨a, ns, rfl, h1, hl, q⟩
  · exact call_sortS hP hw hc pins s σ H _ us Q I r ⟨a, ns, rfl, h1, hl, q⟩
end
end L2
namespace Fam
def sub (b a : Nat) : Prop := a &&& b = b
instance (b a : Nat) : Decidable (sub b a) := inferInstanceAs (Decidable (a &&& b = b))
def mt (a b : Nat) : Prop := a &&& b ≠ 0
instance (b a : Nat) : Decidable (mt b a) := inferInstanceAs (Decidable (b &&& a ≠ 0))
theorem bit_high {n a k : Nat} (h : a < 2 ^ n) (hk : n ≤ k) : a.testBit k = false := Nat.testBit_lt_two_pow (Nat.lt_of_lt_of_le h (Nat.pow_le_pow_right (by decide) hk))
theorem bit_low {n a k : Nat} (h : a < 2 ^ n) (hk : a.testBit k = true) : k < n := by
  rcases Nat.lt_or_ge k n with z | z
  · exact z
  · rw [bit_high h z] at hk; cases hk
def isMin (P : Nat → Bool) (L : List Nat) (a : Nat) : Prop := P a = true ∧ ∀ b ∈ L, P b = true → sub b a → b = a
instance (P : Nat → Bool) (L : List Nat) (a : Nat) : Decidable (isMin P L a) := inferInstanceAs (Decidable (_ ∧ _))
theorem rise_ext : ∀ {a b : List Nat}, a.Pairwise (· < ·) → b.Pairwise (· < ·) → (∀ x, x ∈ a ↔ x ∈ b) → a = b
  | [], [], _, _, _ => rfl
  | [], y :: b, _, _, h => absurd ((h y).mpr List.mem_cons_self) (by simp)
  | x :: a, [], _, _, h => absurd ((h x).mp List.mem_cons_self) (by simp)
  | x :: a, y :: b, ha, hb, h => by
    obtain ⟨a1, a2⟩ := List.pairwise_cons.mp ha
    obtain ⟨b1, b2⟩ := List.pairwise_cons.mp hb
    have e : x = y := by
      rcases List.mem_cons.mp ((h x).mp List.mem_cons_self) with z | z
      · exact z
      · rcases List.mem_cons.mp ((h y).mpr List.mem_cons_self) with q | q
        · exact q.symm
        · have := b1 x z
          have := a1 y q
          omega
    subst e
    congr 1
    refine rise_ext a2 b2 fun z => ?_
    constructor
    · intro hz
      rcases List.mem_cons.mp ((h z).mp (List.mem_cons_of_mem _ hz)) with q | q
      · have := a1 z hz; omega
      · exact q
    · intro hz
      rcases List.mem_cons.mp ((h z).mpr (List.mem_cons_of_mem _ hz)) with q | q
      · have := b1 z hz; omega
      · exact q
end Fam
namespace Fam
def isMax (L : List Nat) (a : Nat) : Prop := ∀ b ∈ L, sub a b → b = a
instance (L : List Nat) (a : Nat) : Decidable (isMax L a) := inferInstanceAs (Decidable (∀ b ∈ L, _))
def nms (n a : Nat) : List Nat := (List.range n).filter fun k => a.testBit k
theorem mem_nms {n a k : Nat} : k ∈ nms n a ↔ k < n ∧ a.testBit k = true := by
  unfold nms
  rw [List.mem_filter, List.mem_range]
theorem nms_rise (n a : Nat) : (nms n a).Pairwise (· < ·) := List.pairwise_lt_range.sublist List.filter_sublist
def ofN (L : List Nat) : Nat := L.foldl (fun z k => z ||| 2 ^ k) 0
theorem ofN_bit (L : List Nat) (j : Nat) : (ofN L).testBit j = decide (j ∈ L) := by
  have key : ∀ (L : List Nat) (z : Nat), (L.foldl (fun z k => z ||| 2 ^ k) z).testBit j = (z.testBit j || decide (j ∈ L)) := fun L => by
    induction L with
    | nil => intro z; simp
    | cons k L ih =>
      intro z
      rw [List.foldl_cons, ih, Nat.testBit_or, Nat.testBit_two_pow, Bool.or_assoc]
      congr 1
      by_cases c : k = j
      · subst c; simp
      · simp [c, Ne.symm c]
  unfold ofN
  rw [key]
  simp
theorem ofN_lt {L : List Nat} {n : Nat} (h : ∀ k ∈ L, k < n) : ofN L < 2 ^ n := by
  refine Nat.lt_pow_two_of_testBit _ fun k hk => ?_
  rw [ofN_bit, decide_eq_false_iff_not]
  intro z
  have := h k z
  omega
theorem ofN_nms {n a : Nat} (h : a < 2 ^ n) : ofN (nms n a) = a := by
  refine Nat.eq_of_testBit_eq fun j => ?_
  rw [ofN_bit]
  cases hb : a.testBit j with
  | true => exact decide_eq_true (mem_nms.mpr ⟨bit_low h hb, hb⟩)
  | false => exact decide_eq_false fun z => by rw [(mem_nms.mp z).2] at hb; cases hb
end Fam
namespace L2
open PySem PySem.Spec PyProof.Rows
abbrev nI (fs : List Nat) : List Int := fs.map fun (n : Nat) => (n : Int)
abbrev nV (fs : List Nat) : List V := (nI fs).map V.int
theorem nV_len (fs : List Nat) : (nV fs).length = fs.length := by simp
theorem nV_get {fs : List Nat} {i : Nat} {x : V} (h : (nV fs)[i]? = some x) : ∃ a, fs[i]? = some a ∧ x = .int (a : Nat) := by
  rw [List.getElem?_map, List.getElem?_map] at h
  cases e : fs[i]? with
  | none => rw [e] at h; cases h
  | some a => rw [e] at h; cases h; exact ⟨a, rfl, rfl⟩
theorem nV_at {fs : List Nat} {i a : Nat} (h : fs[i]? = some a) : (nV fs)[i]? = some (.int (a : Nat)) := by
  rw [List.getElem?_map, List.getElem?_map, h]
  rfl
theorem nV_mem {fs : List Nat} {x : V} (h : x ∈ nV fs) : ∃ a ∈ fs, x = .int (a : Nat) := by
  obtain ⟨z, hz, rfl⟩ := List.mem_map.mp h
  obtain ⟨a, ha, rfl⟩ := List.mem_map.mp hz
  exact ⟨a, ha, rfl⟩
theorem nI_inj {a b : List Nat} : nI a = nI b ↔ a = b := by
  constructor
  · intro h
    have : (nI a).map Int.toNat = (nI b).map Int.toNat := by rw [h]
    rw [nI, nI, List.map_map, List.map_map, show (Int.toNat ∘ fun (n : Nat) => (n : Int)) = id from funext fun n => Int.toNat_natCast n, List.map_id, List.map_id] at this
    exact this
  · rintro rfl; rfl
theorem eqVs_n (a b : List Nat) : eqVs (nV a) (nV b) = decide (a = b) := by
  rw [eqVs_ints]
  exact decide_eq_decide.mpr nI_inj
theorem flat_n (fs : List Nat) : (nV fs).all flatV = true := flat_ints _
theorem nonneg_nI {ms : List Int} (h : ∀ z ∈ ms, 0 ≤ z) : nI (ms.map Int.toNat) = ms := by
  rw [nI, List.map_map]
  conv => rhs; rw [← List.map_id ms]
  refine List.map_congr_left fun z hz => ?_
  have := h z hz
  show ((z.toNat : Nat) : Int) = z
  omega
def sd (fs : List Nat) : List Nat := (List.range (fs.foldl max 0 + 1)).filter fun x => decide (x ∈ fs)
theorem max_ge (fs : List Nat) : ∀ z, z ≤ fs.foldl max z ∧ ∀ x ∈ fs, x ≤ fs.foldl max z := by
  induction fs with
  | nil => intro z; exact ⟨Nat.le_refl _, fun x hx => by cases hx⟩
  | cons a fs ih =>
    intro z
    obtain ⟨h1, h2⟩ := ih (max z a)
    rw [List.foldl_cons]
    refine ⟨by omega, fun x hx => ?_⟩
    rcases List.mem_cons.mp hx with rfl | hx
    · omega
    · exact h2 x hx
theorem mem_sd {fs : List Nat} {x : Nat} : x ∈ sd fs ↔ x ∈ fs := by
  unfold sd
  rw [List.mem_filter, List.mem_range, decide_eq_true_eq]
  exact ⟨fun h => h.2, fun h => ⟨by have := (max_ge fs 0).2 x h; omega, h⟩⟩
theorem sd_rise (fs : List Nat) : (sd fs).Pairwise (· < ·) := List.pairwise_lt_range.sublist List.filter_sublist
theorem sd_eq {fs gs : List Nat} (h : gs.Pairwise (· < ·)) (e : ∀ x, x ∈ gs ↔ x ∈ fs) : gs = sd fs := Fam.rise_ext h (sd_rise fs) fun x => (e x).trans mem_sd.symm
theorem sd_self {fs : List Nat} (h : fs.Pairwise (· < ·)) : sd fs = fs := (sd_eq h fun _ => Iff.rfl).symm
theorem sorted_sd {fs : List Nat} {ms : List Int} (h1 : ms.Perm (dedup (nI fs))) (h2 : ms.Pairwise (· ≤ ·)) : ms = nI (sd fs) := by
  have nn : ∀ z ∈ ms, 0 ≤ z := fun z hz => by
    have := mem_dedup.mp (h1.mem_iff.mp hz)
    obtain ⟨a, _, rfl⟩ := List.mem_map.mp this
    omega
  have e := nonneg_nI nn
  rw [← e]
  congr 1
  have nd : ms.Nodup := h1.nodup_iff.mpr (nodup_dedup _)
  refine sd_eq ?_ fun x => ?_
  · rw [List.pairwise_map]
    have := List.pairwise_iff_getElem.mp h2
    have nd' := List.pairwise_iff_getElem.mp nd
    rw [List.pairwise_iff_getElem]
    intro i j hi hj hij
    have a1 := this i j hi hj hij
    have a2 : ms[i] ≠ ms[j] := nd' i j hi hj hij
    have a3 := nn ms[i] (List.getElem_mem _)
    omega
  · rw [List.mem_map]
    constructor
    · rintro ⟨z, hz, rfl⟩
      have := mem_dedup.mp (h1.mem_iff.mp hz)
      obtain ⟨a, ha, rfl⟩ := List.mem_map.mp this
      simpa using ha
    · intro hx
      exact ⟨x, h1.mem_iff.mpr (mem_dedup.mpr (List.mem_map.mpr ⟨x, hx, rfl⟩)), by simp⟩
theorem sorted_nd {fs : List Nat} {ms : List Int} (hn : fs.Nodup) (h1 : ms.Perm (nI fs)) (h2 : ms.Pairwise (· ≤ ·)) : ms = nI (sd fs) := by
  refine sorted_sd (h1.trans ?_) h2
  have : (nI fs).Nodup := by
    rw [nI, List.Nodup, List.pairwise_map]
    exact hn.imp fun h e => h (by omega)
  refine (List.perm_ext_iff_of_nodup this (nodup_dedup _)).mpr fun z => ?_
  rw [mem_dedup]
end L2
namespace L2
open PySem PySem.Spec PyProof.Rows
section
variable {K : PySem.W.Frag} {g : TG} {σ : St} {H : Hp} {a : Addr} {xs : List V} {nt : Nat} {caps : List Nat} {tt : TT} {te : TE} {Q : VK}
theorem compLg (Pv : Nat → List V → Hp → Prop) (h0 : Pv 0 [] H) (hz : xs.length ≤ sizeLine) (hl : ∀ i ys H1, i ≤ xs.length → Pv i ys H1 → SqL K H1 a xs ∧ ys.length ≤ i)
    (hs : ∀ i x ys H1, xs[i]? = some x → Pv i ys H1 → ∀ (R : VK) (R' : Hp → Prop), (∀ y H2, Pv (i + 1) (ys ++ [y]) H2 → R y H2) → (∀ H2, Pv (i + 1) ys H2 → R' H2) →
      g x (capSt nt caps σ) H1 fun σ4 H4 => tt σ4 H4 fun b H5 => if b = true then te σ4 H5 R else R' H5)
    (hd : ∀ ys H1, Pv xs.length ys H1 → ∀ p, H1 p = none → Q (.ref p) (upd H1 p (.lst ys))) : CompJ (Itl K a) nt caps g tt te σ H Q := by
  refine ⟨fun i m ys H1 => m = xs.length - i ∧ i ≤ xs.length ∧ Pv i ys H1, ⟨_, rfl, Nat.zero_le _, h0⟩, ?_⟩
  rintro i m ys H2 ⟨rfl, hi, p⟩
  obtain ⟨q, hy⟩ := hl i ys H2 hi p
  by_cases hlt : i < xs.length
  · refine .inr ⟨⟨xs, xs[i], q, by simp [hlt]⟩, by omega, fun x H3 y => ?_⟩
    obtain ⟨e, y⟩ := y
    subst e
    exact hs i x ys _ (y xs q) p _ _ (fun v H4 w => ⟨xs.length - (i + 1), by omega, rfl, hlt, w⟩) fun H4 w => ⟨xs.length - (i + 1), by omega, rfl, hlt, w⟩
  · obtain rfl : i = xs.length := by omega
    exact .inl ⟨⟨xs, q, Nat.le_refl _⟩, by omega, hd ys H2 p⟩
theorem compRg {lo : Int} {n : Nat} (Pv : Nat → List V → Hp → Prop) (h0 : Pv 0 [] H) (hz : n ≤ sizeLine) (hl : ∀ i ys H1, i ≤ n → Pv i ys H1 → ys.length ≤ i)
    (hs : ∀ i ys H1, i < n → Pv i ys H1 → ∀ (R : VK) (R' : Hp → Prop), (∀ y H2, Pv (i + 1) (ys ++ [y]) H2 → R y H2) → (∀ H2, Pv (i + 1) ys H2 → R' H2) →
      g (.int (lo + i)) (capSt nt caps σ) H1 fun σ4 H4 => tt σ4 H4 fun b H5 => if b = true then te σ4 H5 R else R' H5)
    (hd : ∀ ys H1, Pv n ys H1 → ∀ p, H1 p = none → Q (.ref p) (upd H1 p (.lst ys))) : CompJ (Itr lo n) nt caps g tt te σ H Q := by
  refine ⟨fun i m ys H1 => m = n - i ∧ i ≤ n ∧ Pv i ys H1, ⟨_, rfl, Nat.zero_le _, h0⟩, ?_⟩
  rintro i m ys H2 ⟨rfl, hi, p⟩
  have hy := hl i ys H2 hi p
  by_cases hlt : i < n
  · refine .inr ⟨hlt, by omega, fun x H3 y => ?_⟩
    obtain ⟨e, y⟩ := y
    subst e y
    exact hs i ys _ hlt p _ _ (fun v H4 w => ⟨n - (i + 1), by omega, rfl, hlt, w⟩) fun H4 w => ⟨n - (i + 1), by omega, rfl, hlt, w⟩
  · obtain rfl : i = n := by omega
    exact .inl ⟨Nat.le_refl _, by omega, hd ys H2 p⟩
theorem compRs {n : Nat} (c : Nat → Bool) (f : Nat → V) (hz : n ≤ 100000)
    (hs : ∀ k, k < n → ∀ H1, Same H H1 → ∀ (R : VK) (R' : Hp → Prop), (c k = true → ∀ H2, Same H1 H2 → R (f k) H2) → (c k = false → ∀ H2, Same H1 H2 → R' H2) →
      g (.int (k : Nat)) (capSt nt caps σ) H1 fun σ4 H4 => tt σ4 H4 fun b H5 => if b = true then te σ4 H5 R else R' H5)
    (hd : ∀ H1 p, Same H H1 → H1 p = none → Q (.ref p) (upd H1 p (.lst (((List.range n).filter c).map f)))) : CompJ (Itr 0 n) nt caps g tt te σ H Q := by
  refine compRg (fun i ys H1 => Same H H1 ∧ ys = ((List.range i).filter c).map f) ⟨Same.refl _, rfl⟩ (Nat.le_trans hz (by decide)) (fun i ys H1 _ h => ?_) (fun i ys H1 hi h R R' r1 r2 => ?_) fun ys H1 h p hp => ?_
  · rw [h.2, List.length_map]
    exact Nat.le_trans (List.length_filter_le _ _) (by simp)
  · obtain ⟨sm, rfl⟩ := h
    rw [Int.zero_add]
    refine hs i hi H1 sm R R' (fun hc H2 s2 => r1 _ _ ⟨sm.trans s2, ?_⟩) fun hc H2 s2 => r2 _ ⟨sm.trans s2, ?_⟩
    · rw [List.range_succ, List.filter_append, List.map_append]; simp [hc]
    · rw [List.range_succ, List.filter_append, List.map_append]; simp [hc]
  · rw [h.2]
    exact hd H1 p h.1 hp
theorem compLs {fs : List V} (c : V → Bool) (f : V → V) (hq : SqL K H a fs) (hz : fs.length ≤ 100000)
    (hs : ∀ x ∈ fs, ∀ H1, Same H H1 → ∀ (R : VK) (R' : Hp → Prop), (c x = true → ∀ H2, Same H1 H2 → R (f x) H2) → (c x = false → ∀ H2, Same H1 H2 → R' H2) →
      g x (capSt nt caps σ) H1 fun σ4 H4 => tt σ4 H4 fun b H5 => if b = true then te σ4 H5 R else R' H5)
    (hd : ∀ H1 p, Same H H1 → H1 p = none → Q (.ref p) (upd H1 p (.lst ((fs.filter c).map f)))) : CompJ (Itl K a) nt caps g tt te σ H Q := by
  refine compLg (xs := fs) (fun i ys H1 => Same H H1 ∧ ys = ((fs.take i).filter c).map f) ⟨Same.refl _, rfl⟩ (Nat.le_trans hz (by decide)) (fun i ys H1 hi h => ⟨h.1.seq hq, ?_⟩) (fun i x ys H1 hx h R R' r1 r2 => ?_) fun ys H1 h p hp => ?_
  · rw [h.2, List.length_map]
    exact Nat.le_trans (List.length_filter_le _ _) (by rw [List.length_take]; omega)
  · obtain ⟨sm, rfl⟩ := h
    have ex := take_succ_filter c fs i x hx
    refine hs x (List.mem_of_getElem? hx) H1 sm R R' (fun hc H2 s2 => r1 _ _ ⟨sm.trans s2, ?_⟩) fun hc H2 s2 => r2 _ ⟨sm.trans s2, ?_⟩
    · rw [ex, hc, if_pos rfl, List.map_append]; rfl
    · rw [ex, hc, if_neg Bool.false_ne_true, List.append_nil]
  · rw [h.2, List.take_length]
    exact hd H1 p h.1 hp
theorem compNs {fs : List Nat} (c : Nat → Bool) (f : Nat → V) (hq : SqL K H a (nV fs)) (hz : fs.length ≤ 100000)
    (hs : ∀ x ∈ fs, ∀ H1, Same H H1 → ∀ (R : VK) (R' : Hp → Prop), (c x = true → ∀ H2, Same H1 H2 → R (f x) H2) → (c x = false → ∀ H2, Same H1 H2 → R' H2) →
      g (.int (x : Nat)) (capSt nt caps σ) H1 fun σ4 H4 => tt σ4 H4 fun b H5 => if b = true then te σ4 H5 R else R' H5)
    (hd : ∀ H1 p, Same H H1 → H1 p = none → Q (.ref p) (upd H1 p (.lst ((fs.filter c).map f)))) : CompJ (Itl K a) nt caps g tt te σ H Q := by
  refine compLs (fs := nV fs) (fun v => match v with | .int i => c i.toNat | _ => false) (fun v => match v with | .int i => f i.toNat | _ => .non) hq (by rw [nV_len]; exact hz) (fun x hx H1 sm R R' r1 r2 => ?_) fun H1 p sm hp => ?_
  · obtain ⟨b, hb, rfl⟩ := nV_mem hx
    refine hs b hb H1 sm R R' (fun hc => ?_) fun hc => ?_
    · have := r1 (by simpa using hc)
      simpa using this
    · exact r2 (by simpa using hc)
  · have e : ((nV fs).filter (fun v => match v with | .int i => c i.toNat | _ => false)).map (fun v => match v with | .int i => f i.toNat | _ => .non) = (fs.filter c).map f := by
      rw [nV, nI, List.map_map, List.filter_map, List.map_map]
      rfl
    rw [e]
    exact hd H1 p sm hp
end
theorem small5 {n : Nat} (h : n ≤ 100000) : n ≤ sizeLine := Nat.le_trans h (by decide)
theorem small5' {n : Nat} (h : n ≤ 100000) : n < sizeLine := Nat.lt_of_le_of_lt h (by decide)
theorem new_at {H H' : Hp} {p : Addr} {o : HO} (e : upd H p o = H') : H' p = some o := e ▸ upd_same
theorem new_sm {H H' : Hp} {p : Addr} {o : HO} (e : upd H p o = H') (h : H p = none) : Same H H' := e ▸ Same.new h
theorem ne_new {H : Hp} {p q : Addr} {o : HO} (h : H p = none) (hq : H q = some o) : q ≠ p := fun z => by rw [z, h] at hq; cases hq
theorem old_none {H H' : Hp} {p : Addr} (s : Same H H') (h : H' p = none) : H p = none := by
  cases e : H p with
  | none => rfl
  | some o => rw [s _ _ e] at h; cases h
theorem atI_n {fs : List Nat} {i b : Nat} (h : fs[i]? = some b) : atI (nV fs) (i : Int) = some (.int (b : Nat)) := by
  have hl := (List.getElem?_eq_some_iff.mp h).1
  unfold atI ixN
  rw [if_pos (by omega), if_pos (by rw [nV_len]; omega)]
  show (nV fs)[(i : Int).toNat]? = _
  rw [Int.toNat_natCast]
  exact nV_at h
theorem sd_le (fs : List Nat) {n : Nat} (h : fs.length ≤ n) : (sd fs).length ≤ n := by
  have nd : (nI (sd fs)).Nodup := by
    rw [nI, List.Nodup, List.pairwise_map]
    exact (sd_rise fs).imp fun h e => by omega
  have p : (nI (sd fs)).Perm (dedup (nI fs)) := (List.perm_ext_iff_of_nodup nd (nodup_dedup _)).mpr fun z => by
    rw [mem_dedup, List.mem_map, List.mem_map]
    exact ⟨fun ⟨x, hx, e⟩ => ⟨x, mem_sd.mp hx, e⟩, fun ⟨x, hx, e⟩ => ⟨x, mem_sd.mpr hx, e⟩⟩
  have e1 := p.length_eq
  have e2 := dedup_len (nI fs)
  simp at e1 e2
  omega
end L2
namespace L2
open PySem PySem.Spec PyProof.Rows
theorem cut_take (xs : List V) (n : Nat) : cutV xs none (some (n : Int)) = xs.take n := by
  unfold cutV
  rw [HT.sIx_nat]
  show (xs.drop 0).take (min n xs.length - 0) = _
  rw [List.drop_zero, Nat.sub_zero, List.take_eq_take_iff]
  omega
theorem cut_drop (xs : List V) (n : Nat) : cutV xs (some (n : Int)) none = xs.drop n := by
  unfold cutV
  rw [HT.sIx_nat]
  show (xs.drop (min n xs.length)).take (xs.length - min n xs.length) = _
  rcases Nat.lt_or_ge n xs.length with z | z
  · rw [Nat.min_eq_left (Nat.le_of_lt z), ← List.length_drop, List.take_length]
  · rw [Nat.min_eq_right z, List.drop_eq_nil_of_le z, List.drop_eq_nil_of_le (Nat.le_refl _)]
    simp
end L2
namespace L2
open PySem PySem.Spec PyProof.Rows
section
variable {K : PySem.W.Frag} {g : TG} {tb : TS} {D : Ends} {σ : St} {H : Hp} {a : Addr} {xs : List V} {c : TT}
theorem loopRn {n : Nat} (Pv : Nat → St → Hp → Prop) (h0 : Pv 0 σ H)
    (hs : ∀ i σ H, i < n → Pv i σ H → ∀ N : St → Hp → Prop, (∀ σ' H', Pv (i + 1) σ' H' → N σ' H') → g (.int (i : Nat)) σ H fun σ2 H2 => tb { D with nx := N, ct := N, bk := D.nx } σ2 H2) (hd : ∀ σ H, Pv n σ H → D.nx σ H) : LoopJ (Itr 0 n) g tb D σ H :=
  loopR Pv h0 (fun i σ H hi p => by rw [Int.zero_add]; exact hs i σ H hi p _ fun _ _ q => q) hd
theorem loopLn (Pv : Nat → St → Hp → Prop) (h0 : Pv 0 σ H) (hl : ∀ i σ H, i ≤ xs.length → Pv i σ H → SqL K H a xs)
    (hs : ∀ i x σ H, xs[i]? = some x → Pv i σ H → ∀ N : St → Hp → Prop, (∀ σ' H', Pv (i + 1) σ' H' → N σ' H') → g x σ H fun σ2 H2 => tb { D with nx := N, ct := N, bk := D.nx } σ2 H2) (hd : ∀ σ H, Pv xs.length σ H → D.nx σ H) : LoopJ (Itl K a) g tb D σ H :=
  loopL Pv h0 hl (fun i x σ H hx p => hs i x σ H hx p _ fun _ _ q => q) hd
end
end L2
namespace L2
open PySem PySem.Spec PyProof.Rows
theorem shr_bit (a k : Nat) : Builtin.bitAnd ((a : Int) / 2 ^ ((k : Nat) : Int).toNat) 1 = if a.testBit k = true then 1 else 0 := by
  have e : (a : Int) / 2 ^ ((k : Nat) : Int).toNat = ((a / 2 ^ k : Nat) : Int) := by rw [Int.toNat_natCast, pow_cast]; rfl
  rw [e, show (1 : Int) = ((1 : Nat) : Int) from rfl, and_nat, Nat.and_one_is_mod, Nat.testBit_eq_decide_div_mod_eq]
  by_cases c : a / 2 ^ k % 2 = 1
  · simp [c]
  · have : a / 2 ^ k % 2 = 0 := by omega
    simp [this]
theorem shr_one (a k : Nat) : decide (Builtin.bitAnd ((a : Int) / 2 ^ ((k : Nat) : Int).toNat) 1 = 1) = a.testBit k := by
  rw [shr_bit]
  cases a.testBit k <;> rfl
theorem shr_iff {a k : Nat} : Builtin.bitAnd ((a : Int) / 2 ^ ((k : Nat) : Int).toNat) 1 = 1 ↔ a.testBit k = true := by
  rw [← shr_one, decide_eq_true_eq]
theorem shl_one (k : Nat) : (1 : Int) * 2 ^ ((k : Nat) : Int).toNat = ((2 ^ k : Nat) : Int) := by rw [Int.one_mul, Int.toNat_natCast, pow_cast]
end L2
namespace Fam
def more (a k : Nat) : Nat := a + 2 ^ k
end Fam
namespace Fam
end Fam
namespace L2
open PySem PySem.Spec PyProof.Rows
inductive Deq (K : PySem.W.Frag) (H : Hp) : Nat → V → V → Bool → Prop where
  | flat {n : Nat} {x y : V} : flatV x = true → flatV y = true → Deq K H n x y (eqV x y)
  | lst {n : Nat} {a b : Addr} {xs ys : List V} {e : Nat → Bool} : a ≠ b → SqL K H a xs → SqL K H b ys → xs.length = ys.length → (∀ (j : Nat) (x y : V), xs[j]? = some x → ys[j]? = some y → Deq K H n x y (e j)) → Deq K H (n + 1) (.ref a) (.ref b) ((List.range xs.length).all e)
  | lstN {n : Nat} {a b : Addr} {xs ys : List V} : a ≠ b → SqL K H a xs → SqL K H b ys → xs.length ≠ ys.length → Deq K H (n + 1) (.ref a) (.ref b) false
  | tup {n : Nat} {a b : Addr} {xs ys : List V} {e : Nat → Bool} : a ≠ b → SqT K H a xs → SqT K H b ys → (∀ (j : Nat) (x y : V), xs[j]? = some x → ys[j]? = some y → Deq K H n x y (e j)) → Deq K H (n + 1) (.ref a) (.ref b) ((List.range (min xs.length ys.length)).all e && xs.length == ys.length)
section
variable {X : Cx} {pins : List (Addr × Obj)} {σ : St} {H : Hp} {s : Shared} {K : PySem.W.Frag}
theorem at_of {xs : List V} {us : List Value} (r : Vals xs us) {j : Nat} (h : j < us.toArray.size) : ∃ x, xs[j]? = some x ∧ RelV x us.toArray[j] := by
  have l := r.length
  rw [List.size_toArray] at h
  have e : xs[j]? = some (xs[j]'(by omega)) := List.getElem?_eq_getElem _
  obtain ⟨u, hu, ru⟩ := r.get e
  have : us.toArray[j]'(by rw [List.size_toArray]; exact h) = u := by
    rw [List.getElem_toArray]
    exact Option.some.inj ((List.getElem?_eq_getElem h).symm.trans hu)
  exact ⟨_, e, this ▸ ru⟩
theorem deq_at (I : Inv X pins σ H s) {n : Nat} {x y : V} {b : Bool} (d : Deq X.K H n x y b) : ∀ {A : Around} {u v : Value}, A.units + n < cLine → RelV x u → RelV y v → SeqAt.EqAt A s u v b := by
  induction d with
  | flat f1 f2 => exact fun _ rx ry => eqAt_V rx ry f1 f2
  | @lst n a b xs ys e hne ha hb hl hd ih =>
    intro A u v hu rx ry
    cases rx
    cases ry
    obtain ⟨us, r1, p1, _⟩ := I.list ha
    obtain ⟨ws, r2, p2, _⟩ := I.list hb
    have l1 := r1.length
    have l2 := r2.length
    refine SeqAt.EqAt.of_refs hne ?_
    rw [show xs.length = us.toArray.size by rw [List.size_toArray]; exact l1]
    refine SeqAt.RcAt.lists p1.isList p2.isList (by simp only [List.size_toArray]; omega) (by omega) fun j h1 h2 => ?_
    obtain ⟨x, ex, rx⟩ := at_of r1 h1
    obtain ⟨y, ey, ry⟩ := at_of r2 h2
    exact ih j x y ex ey (by have := A.in1_units; omega) rx ry
  | @lstN n a b xs ys hne ha hb hl =>
    intro A u v hu rx ry
    cases rx
    cases ry
    obtain ⟨us, r1, p1, _⟩ := I.list ha
    obtain ⟨ws, r2, p2, _⟩ := I.list hb
    have l1 := r1.length
    have l2 := r2.length
    exact SeqAt.EqAt.of_refs hne (SeqAt.RcAt.lists_lengths p1.isList p2.isList (by simp only [List.size_toArray, bne_iff_ne]; omega) (by omega))
  | @tup n a b xs ys e hne ha hb hd ih =>
    intro A u v hu rx ry
    cases rx
    cases ry
    obtain ⟨us, r1, p1, _⟩ := I.tuple ha
    obtain ⟨ws, r2, p2, _⟩ := I.tuple hb
    have l1 := r1.length
    have l2 := r2.length
    refine SeqAt.EqAt.of_refs hne ?_
    rw [show xs.length = us.toArray.size by rw [List.size_toArray]; exact l1, show ys.length = ws.toArray.size by rw [List.size_toArray]; exact l2]
    refine SeqAt.RcAt.tuples p1 p2 (by omega) fun j h1 h2 => ?_
    obtain ⟨x, ex, rx⟩ := at_of r1 h1
    obtain ⟨y, ey, ry⟩ := at_of r2 h2
    exact ih j x y ex ey (by have := A.in1_units; omega) rx ry
def rEqD (K : PySem.W.Frag) : R2 := fun x y H Q => ∃ (n : Nat) (b : Bool) (p : Addr), n ≤ 50 ∧ x = .ref p ∧ Deq K H (n + 1) x y b ∧ Q (.bl b) H
def rNeD (K : PySem.W.Frag) : R2 := fun x y H Q => ∃ (n : Nat) (b : Bool) (p : Addr), n ≤ 50 ∧ x = .ref p ∧ Deq K H (n + 1) x y b ∧ Q (.bl (!b)) H
theorem op_eqD (hK : X.K = K) (hu : X.A.units + 64 < cLine) : OpR X (compareOp .Eq) (rEqD K) := by
  subst hK
  intro pins s σ H x y v u Q I rx ry h
  obtain ⟨n, b, p, hn, rfl, d, q⟩ := h
  generalize hm : n + 1 = m at d
  generalize hx : V.ref p = z at d rx
  cases d with
  | flat f1 f2 => rw [← hx] at f1; cases f1
  | @lst n a b xs ys e hne ha hb hl hd =>
    cases rx
    cases ry
    obtain ⟨us, r1, p1, _⟩ := I.list ha
    obtain ⟨ws, r2, p2, _⟩ := I.list hb
    have l1 := r1.length
    have l2 := r2.length
    rw [show xs.length = us.toArray.size by rw [List.size_toArray]; exact l1] at q
    refine SeqAt.eq_listAt p1.isList p2.isList (by simp only [List.size_toArray]; omega) (by omega) (fun j h1 h2 => ?_) ⟨.bl _, H, I, rfl, q⟩
    obtain ⟨x, ex, rx⟩ := at_of r1 h1
    obtain ⟨y, ey, ry⟩ := at_of r2 h2
    exact deq_at I (hd j x y ex ey) (by have := X.A.in1_units; omega) rx ry
  | @lstN n a b xs ys hne ha hb hl =>
    cases rx
    cases ry
    obtain ⟨us, r1, p1, _⟩ := I.list ha
    obtain ⟨ws, r2, p2, _⟩ := I.list hb
    have l1 := r1.length
    have l2 := r2.length
    exact SeqAt.eq_list_lengthsAt p1.isList p2.isList (by simp only [List.size_toArray, bne_iff_ne]; omega) (by omega) ⟨.bl _, H, I, rfl, q⟩
  | @tup n a b xs ys e hne ha hb hd =>
    cases rx
    cases ry
    obtain ⟨us, r1, p1, _⟩ := I.tuple ha
    obtain ⟨ws, r2, p2, _⟩ := I.tuple hb
    have l1 := r1.length
    have l2 := r2.length
    rw [show xs.length = us.toArray.size by rw [List.size_toArray]; exact l1, show ys.length = ws.toArray.size by rw [List.size_toArray]; exact l2] at q
    refine SeqAt.eq_tupleAt p1 p2 (by omega) (fun j h1 h2 => ?_) ⟨.bl _, H, I, rfl, q⟩
    obtain ⟨x, ex, rx⟩ := at_of r1 h1
    obtain ⟨y, ey, ry⟩ := at_of r2 h2
    exact deq_at I (hd j x y ex ey) (by have := X.A.in1_units; omega) rx ry
theorem op_neD (hK : X.K = K) (hu : X.A.units + 64 < cLine) : OpR X (compareOp .NotEq) (rNeD K) := by
  subst hK
  intro pins s σ H x y v u Q I rx ry h
  obtain ⟨n, b, p, hn, rfl, d, q⟩ := h
  generalize hm : n + 1 = m at d
  generalize hx : V.ref p = z at d rx
  cases d with
  | flat f1 f2 => rw [← hx] at f1; cases f1
  | @lst n a b xs ys e hne ha hb hl hd =>
    cases rx
    cases ry
    obtain ⟨us, r1, p1, _⟩ := I.list ha
    obtain ⟨ws, r2, p2, _⟩ := I.list hb
    have l1 := r1.length
    have l2 := r2.length
    rw [show xs.length = us.toArray.size by rw [List.size_toArray]; exact l1] at q
    refine SeqAt.RcNeAt.lists p1.isList p2.isList (by simp only [List.size_toArray]; omega) (by omega) (fun j h1 h2 => ?_) X.prog X.w _ _ ⟨.bl _, H, I, rfl, q⟩
    obtain ⟨x, ex, rx⟩ := at_of r1 h1
    obtain ⟨y, ey, ry⟩ := at_of r2 h2
    exact deq_at I (hd j x y ex ey) (by have := X.A.in1_units; omega) rx ry
  | @lstN n a b xs ys hne ha hb hl =>
    cases rx
    cases ry
    obtain ⟨us, r1, p1, _⟩ := I.list ha
    obtain ⟨ws, r2, p2, _⟩ := I.list hb
    have l1 := r1.length
    have l2 := r2.length
    exact SeqAt.RcNeAt.lists_lengths p1.isList p2.isList (by simp only [List.size_toArray, bne_iff_ne]; omega) (by omega) X.prog X.w _ _ ⟨.bl _, H, I, rfl, q⟩
  | @tup n a b xs ys e hne ha hb hd =>
    cases rx
    cases ry
    obtain ⟨us, r1, p1, _⟩ := I.tuple ha
    obtain ⟨ws, r2, p2, _⟩ := I.tuple hb
    have l1 := r1.length
    have l2 := r2.length
    rw [show xs.length = us.toArray.size by rw [List.size_toArray]; exact l1, show ys.length = ws.toArray.size by rw [List.size_toArray]; exact l2] at q
    refine SeqAt.RcNeAt.tuples p1 p2 (by omega) (fun j h1 h2 => ?_) X.prog X.w _ _ ⟨.bl _, H, I, rfl, q⟩
    obtain ⟨x, ex, rx⟩ := at_of r1 h1
    obtain ⟨y, ey, ry⟩ := at_of r2 h2
    exact deq_at I (hd j x y ex ey) (by have := X.A.in1_units; omega) rx ry
end
theorem deq_two {K : PySem.W.Frag} {H : Hp} {n : Nat} {a b : Addr} {z z' : Str} {x y : V} {e : Bool} (hne : a ≠ b) (h1 : H a = some (.tup [.str z, x])) (h2 : H b = some (.tup [.str z', y])) (h : Deq K H n x y e) : Deq K H (n + 1) (.ref a) (.ref b) (z == z' && e) := by
  have := Deq.tup (n := n) (e := fun j => if j = 0 then z == z' else e) hne (SqT.of (K := K) h1) (SqT.of h2) (fun j x' y' hx hy => by
    match j with
    | 0 => cases hx; cases hy; exact Deq.flat rfl rfl
    | 1 => cases hx; cases hy; exact h
    | j + 2 => cases hx)
  have e2 : ((List.range (min [V.str z, x].length [V.str z', y].length)).all fun j => if j = 0 then z == z' else e) = (z == z' && e) := by
    show (List.range 2).all _ = _
    simp [List.range_succ]
  rw [e2] at this
  simpa using this
end L2
namespace L2
open PySem PySem.Spec PyProof.Rows
theorem eqVs_all (xs ys : List V) : eqVs xs ys = ((xs.length == ys.length) && (List.range xs.length).all fun j => eqV (xs.getD j .non) (ys.getD j .non)) := rfl
theorem deq_flat {K : PySem.W.Frag} {H : Hp} {n : Nat} {a b : Addr} {xs ys : List V} (hne : a ≠ b) (h1 : H a = some (.lst xs)) (h2 : H b = some (.lst ys)) (f1 : xs.all flatV = true) (f2 : ys.all flatV = true) : Deq K H (n + 1) (.ref a) (.ref b) (eqVs xs ys) := by
  rw [eqVs_all]
  by_cases hl : xs.length = ys.length
  · rw [show (xs.length == ys.length) = true from beq_iff_eq.mpr hl, Bool.true_and]
    refine Deq.lst hne (SqL.of h1) (SqL.of h2) hl fun j x y hx hy => ?_
    rw [List.getD_eq_getElem?_getD, List.getD_eq_getElem?_getD, hx, hy]
    exact Deq.flat (List.all_eq_true.mp f1 x (List.mem_of_getElem? hx)) (List.all_eq_true.mp f2 y (List.mem_of_getElem? hy))
  · rw [show (xs.length == ys.length) = false from beq_eq_false_iff_ne.mpr hl, Bool.false_and]
    exact Deq.lstN hne (SqL.of h1) (SqL.of h2) hl
end L2
namespace L2
open PySem PySem.Spec PyProof.Rows
section
variable {X : Cx} {es : List Expr} {t : TA} {te : TE}
theorem pa_consC {v j p} (ha : PE X (.Constant v j p) te) (hr : PA X es t) : PA X (.Constant v j p :: es) (tCons te t) := pa_cons ha hr
theorem pa_consT {xs b p} (ha : PE X (.Tuple xs b p) te) (hr : PA X es t) : PA X (.Tuple xs b p :: es) (tCons te t) := pa_cons ha hr
theorem pa_consL {xs p} (ha : PE X (.List xs p) te) (hr : PA X es t) : PA X (.List xs p :: es) (tCons te t) := pa_cons ha hr
theorem pa_consD {ks vs p} (ha : PE X (.Dict ks vs p) te) (hr : PA X es t) : PA X (.Dict ks vs p :: es) (tCons te t) := pa_cons ha hr
inductive CI : List Expr → List Int → Prop
  | nil : CI [] []
  | cons {i : Int} {j : Nat} {p : Pos} {es : List Expr} {ns : List Int} (h : CI es ns) : CI (.Constant (.int i) j p :: es) (i :: ns)
def tInts (ns : List Int) : TA := fun _ H Q => Q (ns.map V.int) H
end
end L2
namespace L2
open PySem PySem.Spec PyProof.Rows
section
variable {X : Cx} {K : PySem.W.Frag}
theorem pe_bmK {T : String} {name : Str} {id : String} {r : V → List V → Hp → VK → Prop} {o e : Expr} {es : List Expr} {to : TE} {t : TA} {apos cpos : Pos} (hK : X.K = K) (pa : PlainAttrs T) (slot : Slot T name id) (hty : typeOf (.builtin id) = pure (.type "method_descriptor")) (hm : MtR X id r) (ho : PE X o to) (ha : PA X (e :: es) t) (h1 : attributeBase o name X.env (eval o X.env) = eval o X.env := by rfl) (h2 : ((backTo cpos (starEach (e :: es) X.env)).all (fun x => !x.1) && (backToKw cpos (keywordEach [] X.env)).all (fun x => x.1.isSome) && decide ((e :: es).length + ([] : List Keyword).length + (if ([] : List Keyword).isEmpty then 0 else 1) < 30)) = true := by rfl) (h3 : (apos.endLine == cpos.line) = true := by rfl) (h4 : starEach (e :: es) X.env = (false, eval e X.env) :: starEach es X.env := by rfl) (h5 : (backTo cpos (starEach es X.env)).any (·.1) = false := by rfl) : PE X (.Call (.Attribute o name apos) (e :: es) [] cpos) (tBM K T r to t) := by
  subst hK
  exact pe_bm pa slot hty hm ho ha h1 h2 h3 h4 h5
end
end L2
namespace L2
open PySem PySem.Spec PyProof.Rows
inductive DI : List Expr → TA → Prop
  | nil : DI [] tNil
  | c {v : Const} {j : Nat} {p : Pos} {es : List Expr} {te : TE} {t : TA} (h : ∀ X, PE X (.Constant v j p) te) (r : DI es t) : DI (.Constant v j p :: es) (tCons te t)
  | t {xs : List Expr} {b p} {es : List Expr} {te : TE} {t : TA} (h : ∀ X, PE X (.Tuple xs b p) te) (r : DI es t) : DI (.Tuple xs b p :: es) (tCons te t)
  | d {ks vs p} {es : List Expr} {te : TE} {t : TA} (h : ∀ X, PE X (.Dict ks vs p) te) (r : DI es t) : DI (.Dict ks vs p :: es) (tCons te t)
  | l {xs : List Expr} {p} {es : List Expr} {te : TE} {t : TA} (h : ∀ X, PE X (.List xs p) te) (r : DI es t) : DI (.List xs p :: es) (tCons te t)
end L2
namespace L2
open PySem PySem.Spec PyProof.Rows STb
section
variable {prog : Program} {w : World} {A : Around} {E : Value → Shared → Prop} {s : Shared}
theorem mix_int {k : Int} {v : Value} (h : (mixKind prog w).is (Sum.inl k) v = true) : ∃ t, v = .int k t := by
  have h' : (intKind prog w).is k v = true := h
  have := kI_is.mp h'
  cases v with
  | int i t =>
    have e : i = k := by simpa [kI] using this
    exact ⟨t, by rw [e]⟩
  | _ => simp [kI] at this
theorem keys_ints : ∀ (ks : List Int) (vs : List (Key × Value)) (us : List Value), vs.map (·.1) = ks.map Sum.inl → us.length = vs.length → (∀ (j : Nat) (v : Value), us[j]? = some v → ∃ k x, vs[j]? = some (k, x) ∧ (mixKind prog w).is k v = true) → IntsAre us ks
  | [], [], us, _, hl, _ => by rw [List.length_eq_zero_iff.mp hl]; exact .nil
  | k :: ks, (k', x) :: vs, us, he, hl, h => by
    cases us with
    | nil => cases hl
    | cons u us =>
      have he' : k' = Sum.inl k ∧ vs.map (·.1) = ks.map Sum.inl := by simpa using he
      obtain ⟨k2, x2, e, hi⟩ := h 0 u rfl
      cases e
      rw [he'.1] at hi
      obtain ⟨t, rfl⟩ := mix_int hi
      exact .cons k t (keys_ints ks vs us he'.2 (by simpa using hl) fun j v hj => h (j + 1) v hj)
  | [], _ :: _, _, he, _, _ => by simp at he
  | _ :: _, [], _, he, _, _ => by simp at he
theorem sorted_dict {d : Addr} {vs : List (Key × Value)} {ep : Nat} {ks : List Int} {Q : Value → Shared → Prop} (hh : A.handled = none) (lo : (d == sysModules) = false) (hm : s.heap.DictAt (mixKind prog w) d vs ep) (hks : vs.map (·.1) = ks.map Sum.inl) (hbig : ks.length ≤ 63)
    (h : ∀ (h1 : Heap) (tk : Nat) (l : Addr) (us : List Value) (ms : List Int) (n : Nat) (s' : Shared), (∀ b o, s.heap.get? b = some o → h1.get? b = some o) → IntsAre us ms → ms.Perm ks → ms.Pairwise (· ≤ ·) → h1.objs.size ≤ l → s'.heap.get? l = some { cls := .type "list", data := .seq us.toArray n } → (∀ b o, h1.get? b = some o → s'.heap.get? b = some o) → s'.gens = s.gens → s'.os = s.os → Q (.ref l) s') : wpAny (model prog w) A (call (.builtin "sorted") [.ref d]) Q E s := by
  refine Calls.call_function_entry kind_sorted plain_sorted entry_sorted (args_sorted1 _) ?_
  unfold Builtin.«sorted»
  refine wpAny_bind (m := checkCount "sorted" 1 1 _) (wpAny_pure ?_)
  have hlv : vs.length = ks.length := by have := congrArg List.length hks; simpa using this
  refine wpAny_bind (PySem.W.kdu_collect (PySem.W.kdl_dict (knd := mixKind prog w) (kvs := vs) (ep := ep) lo) (by first | exact hh | simp [hh]) hm (Nat.le_trans (show vs.length ≤ 63 by omega) (by decide)) fun h1 tk acc kp hit => ?_)
  have hi : IntsAre acc.toList ks := keys_ints (prog := prog) (w := w) ks vs acc.toList hks (by rw [Array.length_toList]; exact hit.1) fun j v hj => hit.2 j v (by rw [← Array.getElem?_toList]; exact hj)
  have hv : acc.toList.length ≤ 63 := by
    have := hi.length
    omega
  generalize acc.toList = us at hi hv ⊢
  have hz : us.length ≤ sizeLine := Nat.le_trans hv (by decide)
  refine wpAny_bind (wpAny_newList ?_ hz)
  have g1 : (h1.push (seqObj "list" us.toArray 0)).get? h1.objs.size = some (seqObj "list" us.toArray 0) := Heap.get?_push_size _ rfl
  refine wpAny_bind (wpAny_holding (wpAny_call_entry slot_list_sort ⟨_, g1, rfl⟩ entry_list_sort (Tim.sort_any g1 hi hv fun out ns' a1 a2 a3 => ⟨_, rfl, ?_⟩) (args_list_sort _)))
  obtain ⟨e, he⟩ : ∃ e, (sortedHeap (h1.push (seqObj "list" us.toArray 0)) h1.objs.size us out).get? h1.objs.size = some (seqObj "list" out e) := sortedHeap_at g1
  refine wpAny_pure ⟨_, rfl, h h1 tk _ out.toList ns' e _ kp a1 a2 a3 (Nat.le_refl _) (by rw [Array.toArray_toList]; exact he) (fun b o q1 => ?_) rfl rfl⟩
  have hb : b < h1.objs.size := Heap.lt_size q1
  show (sortedHeap (h1.push (seqObj "list" us.toArray 0)) h1.objs.size us out).get? b = some o
  rw [sortedHeap_old (Nat.ne_of_lt hb) (by rw [size_push']; exact Nat.lt_succ_of_lt hb)]
  exact Heap.get?_push_of_some _ q1
end
section
variable {X : Cx}
def rSortD : List V → Hp → VK → Prop := fun xs H Q => ∃ (d : Addr) (kvs : List (Key × V)) (ks : List Int), xs = [.ref d] ∧ H d = some (.dK kvs) ∧ kvs.map (·.1) = ks.map Sum.inl ∧ ks.length ≤ 63 ∧ ∀ (l : Addr) (ms : List Int), H l = none → ms.Perm ks → ms.Pairwise (· ≤ ·) → Q (.ref l) (upd H l (.lst (ms.map V.int)))
theorem kv_keys {κ : Type} : ∀ {kvs : List (κ × V)} {vs : List (κ × Value)}, KV kvs vs → vs.map (·.1) = kvs.map (·.1)
  | _, _, .nil => rfl
  | _, _, .cons r t => by rw [List.map_cons, List.map_cons, kv_keys t, r.1]
theorem call_sortD (hc : X.calm = true) : CallR X (.builtin "sorted") rSortD := by
  intro pins s σ H xs us Q I r h
  obtain ⟨a, kvs, ks, rfl, ha, hk, hl, q⟩ := h
  obtain ⟨u, rfl, ru⟩ := vals1 r
  cases ru
  obtain ⟨hz, lo, vs, kv, o, es, ep, e, cc⟩ := I.hok a _ ha
  refine sorted_dict (vs := vs) (ep := ep) (I.ok.hd hc) lo ⟨o, es, e, cc⟩ ((kv_keys kv).trans hk) hl fun h1 tk l us ms n s' kp1 hi hp pw hle g kp eg eo => ?_
  have I1 : Inv X pins σ H { s with heap := h1, toks := s.toks } := I.kept kp1
  obtain ⟨h', g', d', t', o'⟩ := s'
  have e1 : o' = s.os := eo
  have e2 : g' = s.gens := eg
  subst e1 e2
  have hn : H l = none := I1.hok.fresh hle
  have e3 := hi.length
  have e4 := hp.length_eq
  have hok := I1.hok.laid (h' := h') (a := l) (o := .lst (ms.map V.int)) kp hle ⟨by rw [List.length_map]; exact Nat.le_trans (show ms.length ≤ 63 by omega) (by decide), us, n, vals_ints hi, g⟩
  refine ⟨.ref l, _, I1.call' (s' := ⟨h', s.gens, d', t', s.os⟩) (ch := []) rfl (Un.laid kp hle hn) hok I1.bare (fun _ z => nomatch z), rfl, q l ms hn hp pw⟩
end
end L2
namespace L2
open PySem PySem.Spec PyProof.Rows
section
variable {X : Cx} {K : PySem.W.Frag} {g : TG} {σ : St} {H : Hp} {a : Addr} {xs : List V} {nt : Nat} {caps : List Nat} {tt : TT} {te tl : TE} {Q : VK}
theorem tComp_t : tComp nt caps (iTup K tl) g tt te σ H Q ↔ tl σ H fun x H1 => ∃ a, x = .ref a ∧ (∃ xs, SqT K H1 a xs) ∧ CompJ (Itt K a) nt caps g tt te σ H1 Q := Iff.rfl
end
end L2
namespace L2
open PySem PySem.Spec PyProof.Rows
abbrev sV (ys : List Str) : List V := ys.map V.str
theorem strs_of : ∀ {ys : List Str} {us : List Value}, Vals (sV ys) us → StrsAre us ys
  | [], _, .nil => .nil
  | y :: ys, _, .cons r t => by
    obtain ⟨k, rfl⟩ := (show ∃ k, _ = Value.str y k from r)
    exact .cons y k (strs_of t)
theorem strs_vals : ∀ (l : List (Str × Tok)), Vals (sV (l.map (·.1))) (strValues l)
  | [] => .nil
  | (y, t) :: l => .cons ⟨t, rfl⟩ (strs_vals l)
section
variable {X : Cx}
def rJoin (K : PySem.W.Frag) : V → List V → Hp → VK → Prop := fun x vs H Q => ∃ (sep : Str) (l : Addr) (ys : List Str), x = .str sep ∧ vs = [.ref l] ∧ SqL K H l (sV ys) ∧ (ys.map (·.length)).sum + ys.length * sep.length ≤ 16777216 ∧ Q (.str (Txt.join sep ys)) H
theorem mt_join {K : PySem.W.Frag} (hK : X.K = K) : MtM X "str.join" (rJoin K) := by
  subst hK
  intro pins s σ H x vs v us Q I rx rv h
  obtain ⟨sep, l, ys, rfl, rfl, hq, hz, q⟩ := h
  obtain ⟨t, rfl⟩ := rx
  obtain ⟨u, rfl, ru⟩ := rv.one
  cases (show u = Value.ref l from ru)
  obtain ⟨its, r, p, _⟩ := I.list hq
  exact join_list p.isList (by simpa using strs_of r) hz fun t' k => ⟨.str _, H, I.tok k, ⟨_, rfl⟩, q⟩
def rSplit : V → List V → Hp → VK → Prop := fun x vs H Q => ∃ (z y : Str), x = .str z ∧ vs = [.str y] ∧ (y.length == 0) = false ∧ z.length ≤ 100000 ∧ ∀ l, H l = none → Q (.ref l) (upd H l (.lst (sV (Txt.split z y))))
theorem mt_split : MtM X "str.split" rSplit := by
  intro pins s σ H x vs v us Q I rx rv h
  obtain ⟨z, y, rfl, rfl, hy, hz, q⟩ := h
  obtain ⟨t, rfl⟩ := rx
  obtain ⟨u, rfl, ru⟩ := rv.one
  obtain ⟨t2, rfl⟩ := ru
  have hl := split_le z y
  have e24 : sizeLine = 16777216 := sizeLine_eq
  have fin : ∀ (l : List (Str × Tok)) (k : Nat), l.map (·.1) = Txt.split z y → EP X pins σ Q (.ref s.heap.objs.size) { s with heap := s.heap.push { cls := .type "list", data := .seq (strValues l).toArray }, toks := k } := fun l k e =>
    ⟨.ref s.heap.objs.size, _, I.lnew (ys := sV (Txt.split z y)) (t' := k) (by rw [← e]; exact strs_vals l) (by rw [List.length_map]; omega), rfl, q _ I.fresh⟩
  cases h1 : (decide (z.length < y.length) || decide (Builtin.Str.strKind z < Builtin.Str.strKind y)) with
  | true => exact call_meets F.slot_str_split (typeIs_str _ _ _) F.entry_str_split (F.args_str_split_2 _ _) (meets_str_split_cannot_occur z y t t2 h1) (fin [(z, t)] s.toks (if_pos h1).symm)
  | false =>
    cases h2 : (Builtin.Str.occurrences z y 0 z.length (z.length + 1)).isEmpty with
    | true => exact call_meets F.slot_str_split (typeIs_str _ _ _) F.entry_str_split (F.args_str_split_2 _ _) (meets_str_split_not_found z y t t2 h1 hy h2) (fin [(z, t)] s.toks ((if_neg (ne_true_of_eq_false h1)).trans (if_pos h2)).symm)
    | false =>
      have es : Txt.split z y = Builtin.Str.partsBetween z (Builtin.Str.occurrences z y 0 z.length (z.length + 1)) y.length := (if_neg (ne_true_of_eq_false h1)).trans (if_neg (ne_true_of_eq_false h2))
      refine call_meets F.slot_str_split (typeIs_str _ _ _) F.entry_str_split (F.args_str_split_2 _ _) (meets_str_split_sep z y t t2 h1 hy h2 (by omega) (by rw [← es]; omega)) ?_
      rw [strsFrom_eq]
      exact fin (numbered s.toks _) _ ((numbered_texts _ _).trans es.symm)
def rSlS : V → Option Int → Option Int → Hp → VK → Prop := fun x lo hi H Q => ∃ z : Str, x = .str z ∧ z.length ≤ 100000 ∧ Q (.str (Txt.slice z lo hi)) H
theorem part_val {v : Value} {o : Option Int} (h : IsPart v o) : ∃ p : Option (Int × Tok), v = partValue p ∧ p.map (·.1) = o := by
  cases h with
  | none => exact ⟨none, rfl, rfl⟩
  | int => exact ⟨some (_, _), rfl, rfl⟩
theorem sl_str : SlR X rSlS := by
  intro pins s σ H x v vl vu lo hi sl Q I rx hs pl pu h
  obtain ⟨z, rfl, hz, q⟩ := h
  obtain ⟨t, rfl⟩ := rx
  obtain ⟨a, rfl, rfl⟩ := part_val pl
  obtain ⟨b, rfl, rfl⟩ := part_val pu
  have e24 : sizeLine = 16777216 := sizeLine_eq
  refine ⟨"str", _, F.slot_str_getitem.lookup, typeIs_str _ _ _, wpAny_getItem_str_slice (l := a) (u := b) (st := none) hs rfl (post_val_or_str ⟨Nat.le_trans (Txt.slice_le z _ _) (by omega), fun t' k => ?_⟩)⟩
  exact ⟨.str _, H, I.tok k, ⟨_, rfl⟩, q⟩
def rIndexS : V → List V → Hp → VK → Prop := fun x vs H Q => ∃ (l : Addr) (ys : List Str) (k : Str), x = .ref l ∧ vs = [.str k] ∧ H l = some (.lst (sV ys)) ∧ k ∈ ys ∧ ys.length ≤ 1000 ∧ Q (.int (ys.idxOf k : Nat)) H
theorem isStrOf_at (k : Str) : ∀ {vs : List Value} {ys : List Str}, StrsAre vs ys → ∀ (i : Nat) (h1 : i < vs.length) (h2 : i < ys.length), isStrOf k vs[i] = (ys[i] == k)
  | _, _, .nil, i, h1, _ => absurd h1 (Nat.not_lt_zero i)
  | _, _, .cons y t r, 0, _, _ => rfl
  | _, _, .cons y t r, i + 1, h1, h2 => isStrOf_at k r i (Nat.lt_of_succ_lt_succ h1) (Nat.lt_of_succ_lt_succ h2)
theorem StrsAre.len : ∀ {vs : List Value} {ys : List Str}, StrsAre vs ys → vs.length = ys.length
  | _, _, .nil => rfl
  | _, _, .cons y t r => congrArg (· + 1) (StrsAre.len r)
theorem lt_idxOf : ∀ {ys : List Str} {k : Str} {j : Nat}, j < ys.idxOf k → ∀ h : j < ys.length, (ys[j] == k) = false
  | [], _, j, _, h => absurd h (Nat.not_lt_zero j)
  | y :: ys, k, j, w, h => by
    rw [List.idxOf_cons] at w
    cases c : y == k with
    | true => rw [c] at w; exact absurd w (by simp)
    | false =>
      rw [c] at w
      cases j with
      | zero => exact c
      | succ j =>
        have w : j + 1 < ys.idxOf k + 1 := w
        exact lt_idxOf (ys := ys) (by omega) (Nat.lt_of_succ_lt_succ h)
theorem mt_indexS : MtM X "list.index" rIndexS := by
  intro pins s σ H x vs v us Q I rx rv h
  obtain ⟨l, ys, k, rfl, rfl, hH, hk, hb, q⟩ := h
  cases rx
  obtain ⟨u, rfl, ru⟩ := rv.one
  obtain ⟨t, rfl⟩ := ru
  obtain ⟨z, its, n, r, hl, e⟩ := I.lstM hH
  have hi := strs_of r
  have hlen := StrsAre.len hi
  have hj : ys.idxOf k < ys.length := List.idxOf_lt_length_iff.mpr hk
  refine call_meets PySem.F.slot_list_index ⟨_, e, rfl⟩ PySem.F.entry_list_index (PySem.F.args_list_index_2 _ _) (SeqAt.list_indexAt l its.toArray n none #[] (.str k t) (isStrOf k) (ys.idxOf k) (by rw [List.size_toArray]; omega) (by omega) ?_ fun j w1 w2 => ?_) ⟨e, fun y hy => (eq_isStrOf k t hi y (by simpa using hy)).at _ _, ?_⟩
  · exact (isStrOf_at k hi _ (by omega) hj).trans (by simp)
  · refine (isStrOf_at k hi j (by simpa using w1) (by omega)).trans ?_
    exact lt_idxOf w2 _
  · exact ⟨.int _, H, I.tok _, ⟨_, rfl⟩, q⟩
end
end L2
namespace L2
open PySem PySem.Spec PyProof.Rows
def Its (z : Str) : It := ⟨fun i _ => i < z.length, fun i H x H' => H' = H ∧ ∃ c, z.cps[i]? = some c ∧ x = .str ⟨#[c]⟩, fun i _ => z.length ≤ i⟩
def iStr (tl : TE) : TI := fun σ H R => tl σ H fun x H1 => ∃ z : Str, x = .str z ∧ z.cps.all (· < 128) = true ∧ R (Its z) H1
section
variable {X : Cx} {tg : Expr}
end
section
variable {g : TG} {tb : TS} {D : Ends} {σ : St} {H : Hp} {z : Str} {nt : Nat} {caps : List Nat} {tt : TT} {te tl : TE} {Q : VK}
theorem tFor_s : tFor (iStr tl) g tb D σ H ↔ tl σ H fun x H1 => ∃ z : Str, x = .str z ∧ z.cps.all (· < 128) = true ∧ LoopJ (Its z) g tb D σ H1 := Iff.rfl
theorem tComp_s : tComp nt caps (iStr tl) g tt te σ H Q ↔ tl σ H fun x H1 => ∃ z : Str, x = .str z ∧ z.cps.all (· < 128) = true ∧ CompJ (Its z) nt caps g tt te σ H1 Q := Iff.rfl
end
section
variable {X : Cx} {K : PySem.W.Frag}
end
end L2
namespace L2
open PySem PySem.Spec PyProof.Rows
def seen (v : Nat → Str) : Nat → List Str
  | 0 => []
  | i + 1 => if (seen v i).any (· == v i) then seen v i else seen v i ++ [v i]
section
variable {prog : Program} {w : World} {A : Around} {R : Result → Shared → Prop} {I : Addr} {fp wr : List Addr} {G : Array GenState → Array GenState → Prop} {n : Nat} {P : Nat → Value → Prop} {St : Nat → Shared → Prop}
end
section
variable {prog : Program} {w : World} {A : Around} {E : Value → Shared → Prop} {s : Shared}
end
def cnt (ys : List Str) : Nat := (seen (fun i => ys.getD i Str.empty) ys.length).length
section
variable {X : Cx} {P : Program} {w : World} {K : PySem.W.Frag}
end
theorem pe_constS {X : Cx} {x z : Str} {p : Pos} (h : ∃ t, X.mg x = some (.str z t)) (hg : Gl X x) (hd : (x == ("__debug__" : Str)) = false := by decide) : PE X (.Name x p) (tC (.str z)) := by
  obtain ⟨t, h⟩ := h
  exact pe_glob hg h ⟨t, rfl⟩ hd
theorem tSeq_ifv {D : Ends} {σ : St} {H : Hp} {c : TT} {u : TS} : tSeq (tIfS c tNever tNext) u D σ H ↔ c σ H fun b H1 => if b = true then False else u D σ H1 := Iff.rfl
end L2
namespace Tx
open PySem
abbrev sg (z : Str) : List Nat := z.cps.toList
theorem ext {a b : Str} (h : sg a = sg b) : a = b := by
  obtain ⟨a⟩ := a
  obtain ⟨b⟩ := b
  have : a = b := Array.toList_inj.mp h
  rw [this]
theorem sg_app (a b : Str) : sg (a ++ b) = sg a ++ sg b := by
  show (a.cps ++ b.cps).toList = _
  simp
def jn (c : Nat) : List (List Nat) → List Nat
  | [] => []
  | [x] => x
  | x :: y :: r => x ++ c :: jn c (y :: r)
theorem sg_join (c : Nat) : ∀ ys : List Str, sg (Str.join ⟨#[c]⟩ ys) = jn c (ys.map sg)
  | [] => rfl
  | [x] => rfl
  | x :: y :: r => by
    show sg (x ++ ⟨#[c]⟩ ++ Str.join ⟨#[c]⟩ (y :: r)) = sg x ++ c :: jn c ((y :: r).map sg)
    rw [sg_app, sg_app, sg_join c (y :: r), List.append_assoc]
    rfl
theorem jn_cons {c : Nat} {x : List Nat} {r : List (List Nat)} (h : r ≠ []) : jn c (x :: r) = x ++ c :: jn c r := by
  cases r with
  | nil => exact absurd rfl h
  | cons y r => rfl
theorem cut_eq {c : Nat} : ∀ {x y a b : List Nat}, c ∉ x → c ∉ y → x ++ c :: a = y ++ c :: b → x = y ∧ a = b
  | [], [], a, b, _, _, h => ⟨rfl, by simpa using h⟩
  | [], q :: y, a, b, _, hy, h => by
    have := List.cons.inj h
    exact absurd (this.1 ▸ List.mem_cons_self) hy
  | p :: x, [], a, b, hx, _, h => by
    have := List.cons.inj h
    exact absurd (this.1 ▸ List.mem_cons_self) hx
  | p :: x, q :: y, a, b, hx, hy, h => by
    have h := List.cons.inj h
    obtain ⟨e1, e2⟩ := cut_eq (fun z => hx (List.mem_cons_of_mem _ z)) (fun z => hy (List.mem_cons_of_mem _ z)) h.2
    exact ⟨by rw [h.1, e1], e2⟩
theorem jn_inj {c : Nat} : ∀ {xs ys : List (List Nat)}, xs ≠ [] → ys ≠ [] → (∀ x ∈ xs, c ∉ x) → (∀ y ∈ ys, c ∉ y) → jn c xs = jn c ys → xs = ys
  | [], _, h, _, _, _, _ => absurd rfl h
  | _, [], _, h, _, _, _ => absurd rfl h
  | [x], [y], _, _, _, _, h => by rw [show x = y from h]
  | [x], y :: q :: r, _, _, hx, hy, h => by
    have h : x = y ++ c :: jn c (q :: r) := h
    exact absurd (by rw [h]; simp) (hx x List.mem_cons_self)
  | x :: p :: s, [y], _, _, hx, hy, h => by
    have h : x ++ c :: jn c (p :: s) = y := h
    exact absurd (by rw [← h]; simp) (hy y List.mem_cons_self)
  | x :: p :: s, y :: q :: r, _, _, hx, hy, h => by
    have h : x ++ c :: jn c (p :: s) = y ++ c :: jn c (q :: r) := h
    obtain ⟨e1, e2⟩ := cut_eq (hx x List.mem_cons_self) (hy y List.mem_cons_self) h
    rw [e1, jn_inj (by simp) (by simp) (fun z hz => hx z (List.mem_cons_of_mem _ hz)) (fun z hz => hy z (List.mem_cons_of_mem _ hz)) e2]
theorem txt_join (c : Nat) (ys : List Str) : sg (Txt.join ⟨#[c]⟩ ys) = jn c (ys.map sg) := by
  rw [show Txt.join ⟨#[c]⟩ ys = Str.join ⟨#[c]⟩ ys from StrLaws.glued_eq_join _ _, sg_join]
theorem sg_inj : ∀ {a b : List Str}, a.map sg = b.map sg → a = b
  | [], [], _ => rfl
  | [], _ :: _, h => by cases h
  | _ :: _, [], h => by cases h
  | x :: a, y :: b, h => by
    have h := List.cons.inj h
    rw [ext h.1, sg_inj h.2]
theorem split_join {c : Nat} {ws : List Str} (h0 : ws ≠ []) (h : ∀ w ∈ ws, c ∉ sg w) : Txt.split (Txt.join ⟨#[c]⟩ ws) ⟨#[c]⟩ = ws := by
  have e1 := StrLaws.join_split (Txt.join ⟨#[c]⟩ ws) ⟨#[c]⟩
  have e2 := congrArg sg e1
  rw [sg_join, txt_join] at e2
  have fr := StrLaws.split_free (Txt.join ⟨#[c]⟩ ws) c
  refine sg_inj (jn_inj (c := c) (fun z => ?_) (fun z => h0 (List.map_eq_nil_iff.mp z)) (fun x hx => ?_) (fun x hx => ?_) e2)
  · have := PyProof.Rows.split_pos (Txt.join ⟨#[c]⟩ ws) ⟨#[c]⟩
    rw [List.map_eq_nil_iff.mp z] at this
    exact absurd this (by decide)
  · obtain ⟨p, hp, rfl⟩ := List.mem_map.mp hx
    exact fr p hp
  · obtain ⟨p, hp, rfl⟩ := List.mem_map.mp hx
    exact h p hp
theorem jn_mem {c d : Nat} : ∀ {xs : List (List Nat)}, d ∈ jn c xs → d = c ∨ ∃ x ∈ xs, d ∈ x
  | [], h => by cases h
  | [x], h => .inr ⟨x, List.mem_cons_self, h⟩
  | x :: y :: r, h => by
    have h : d ∈ x ++ c :: jn c (y :: r) := h
    rcases List.mem_append.mp h with z | z
    · exact .inr ⟨x, List.mem_cons_self, z⟩
    · rcases List.mem_cons.mp z with z | z
      · exact .inl z
      · rcases jn_mem z with w | ⟨q, w1, w2⟩
        · exact .inl w
        · exact .inr ⟨q, List.mem_cons_of_mem _ w1, w2⟩
theorem jn_len {c M : Nat} : ∀ {xs : List (List Nat)}, (∀ x ∈ xs, x.length ≤ M) → (jn c xs).length ≤ xs.length * (M + 1)
  | [], _ => Nat.zero_le _
  | [x], h => by
    have := h x List.mem_cons_self
    show x.length ≤ 1 * (M + 1)
    omega
  | x :: y :: r, h => by
    have h1 := h x List.mem_cons_self
    have h2 := jn_len (c := c) (M := M) (xs := y :: r) fun z hz => h z (List.mem_cons_of_mem _ hz)
    show (x ++ c :: jn c (y :: r)).length ≤ _
    rw [List.length_append, List.length_cons]
    have e : (x :: y :: r).length * (M + 1) = (y :: r).length * (M + 1) + (M + 1) := by rw [List.length_cons (a := x), Nat.add_mul, Nat.one_mul]
    rw [e]
    omega
def Wd (w : Str) : Prop := 1 ≤ w.length ∧ w.length ≤ 8 ∧ ∀ c ∈ sg w, 97 ≤ c ∧ c ≤ 122
theorem Wd.free {w : Str} (h : Wd w) {c : Nat} (hc : c < 97) : c ∉ sg w := fun z => by
  have := (h.2.2 c z).1
  omega
theorem len_sg (w : Str) : (sg w).length = w.length := by simp [sg, Str.length]
structure Wds (ws : List Str) : Prop where
  few : ws.length ≤ 8
  nd : ws.Nodup
  wd : ∀ w ∈ ws, Wd w
  no : ("none" : Str) ∉ ws
theorem lit_plus : ("+" : Str) = ⟨#[43]⟩ := by decide +kernel
theorem lit_space : (" " : Str) = ⟨#[32]⟩ := by decide +kernel
theorem lit_dash : ("-" : Str) = ⟨#[45]⟩ := by decide +kernel
theorem lit_none : ("none" : Str) = ⟨#[110, 111, 110, 101]⟩ := by decide +kernel
theorem lit_empty : ("" : Str) = ⟨#[]⟩ := by decide +kernel
def wds (ws : List Str) (a : Nat) : List Str := (Fam.nms 8 a).map fun k => ws.getD k Str.empty
def sT (ws : List Str) (a : Nat) : Str := if a = 0 then "-" else Txt.join "+" (wds ws a)
def fT (ws : List Str) (fs : List Nat) : Str := if fs = [] then "none" else Txt.join " " (fs.map (sT ws))
theorem nms_zero : ∀ a, a < 256 → Fam.nms 8 a = [] → a = 0 := by decide +kernel
section
variable {ws : List Str} {a : Nat}
theorem nms_lt (ha : a < 2 ^ ws.length) {k : Nat} (hk : k ∈ Fam.nms 8 a) : k < ws.length := by
  have hb := (Fam.mem_nms.mp hk).2
  rcases Nat.lt_or_ge k ws.length with c | c
  · exact c
  · rw [Nat.testBit_lt_two_pow (Nat.lt_of_lt_of_le ha (Nat.pow_le_pow_right (by decide) c))] at hb
    cases hb
theorem wds_mem (h : Wds ws) (ha : a < 2 ^ ws.length) {w : Str} (hw : w ∈ wds ws a) : w ∈ ws := by
  obtain ⟨k, hk, rfl⟩ := List.mem_map.mp hw
  have hl := nms_lt ha hk
  rw [List.getD_eq_getElem?_getD, List.getElem?_eq_getElem hl]
  exact List.getElem_mem hl
theorem lt256 (h : Wds ws) (ha : a < 2 ^ ws.length) : a < 256 := Nat.lt_of_lt_of_le ha (Nat.pow_le_pow_right (n := 2) (by decide) h.few)
theorem wds_ne (h : Wds ws) (ha : a < 2 ^ ws.length) (h0 : a ≠ 0) : wds ws a ≠ [] := fun z => h0 (nms_zero a (lt256 h ha) (List.map_eq_nil_iff.mp z))
theorem split_sT (h : Wds ws) (ha : a < 2 ^ ws.length) : Txt.split (sT ws a) "+" = if a = 0 then [("-" : Str)] else wds ws a := by
  rw [lit_plus]
  unfold sT
  by_cases c : a = 0
  · rw [if_pos c, if_pos c]
    have : Txt.split (Txt.join ⟨#[43]⟩ [("-" : Str)]) ⟨#[43]⟩ = [("-" : Str)] := split_join (by simp) fun w hw => by
      rw [List.mem_singleton.mp hw, lit_dash]
      decide
    exact this
  · rw [if_neg c, if_neg c, lit_plus]
    exact split_join (wds_ne h ha c) fun w hw => (h.wd w (wds_mem h ha hw)).free (by decide)
theorem sT_free (h : Wds ws) (ha : a < 2 ^ ws.length) : 32 ∉ sg (sT ws a) := by
  unfold sT
  by_cases c : a = 0
  · rw [if_pos c, lit_dash]
    decide
  · rw [if_neg c, lit_plus, txt_join]
    intro z
    rcases jn_mem z with e | ⟨x, hx, hz⟩
    · exact absurd e (by decide)
    · obtain ⟨w, hw, rfl⟩ := List.mem_map.mp hx
      exact (h.wd w (wds_mem h ha hw)).free (by decide) hz
theorem sT_len (h : Wds ws) (ha : a < 2 ^ ws.length) : (sT ws a).length ≤ 72 := by
  unfold sT
  by_cases c : a = 0
  · rw [if_pos c, lit_dash]
    decide
  · rw [if_neg c, ← len_sg, lit_plus, txt_join]
    have h1 := jn_len (c := 43) (M := 8) (xs := (wds ws a).map sg) fun x hx => by
      obtain ⟨w, hw, rfl⟩ := List.mem_map.mp hx
      rw [len_sg]
      exact (h.wd w (wds_mem h ha hw)).2.1
    have h2 : ((wds ws a).map sg).length ≤ 8 := by
      rw [List.length_map]
      unfold wds Fam.nms
      rw [List.length_map]
      exact Nat.le_trans (List.length_filter_le _ _) (by simp)
    exact Nat.le_trans h1 (Nat.mul_le_mul h2 (Nat.le_refl 9))
theorem sT_none (h : Wds ws) (ha : a < 2 ^ ws.length) : sT ws a ≠ "none" := by
  unfold sT
  by_cases c : a = 0
  · rw [if_pos c]
    decide +kernel
  · rw [if_neg c]
    intro z
    have hm := fun w hw => wds_mem h ha (w := w) hw
    have ne := wds_ne h ha c
    have e := congrArg sg z
    rw [lit_plus, txt_join, lit_none] at e
    cases hw : wds ws a with
    | nil => exact ne hw
    | cons x r =>
      cases r with
      | nil =>
        rw [hw] at e
        have ex : x = "none" := by
          rw [lit_none]
          exact ext e
        exact h.no (ex ▸ hm x (by rw [hw]; exact List.mem_cons_self))
      | cons y r =>
        rw [hw] at e
        have e : sg x ++ 43 :: jn 43 ((y :: r).map sg) = [110, 111, 110, 101] := e
        have : 43 ∈ [110, 111, 110, 101] := by
          rw [← e]
          simp
        exact absurd this (by decide)
theorem split_fT (h : Wds ws) {fs : List Nat} (hb : ∀ b ∈ fs, b < 2 ^ ws.length) : Txt.split (fT ws fs) " " = if fs = [] then [("none" : Str)] else fs.map (sT ws) := by
  rw [lit_space]
  unfold fT
  by_cases c : fs = []
  · rw [if_pos c, if_pos c]
    have : Txt.split (Txt.join ⟨#[32]⟩ [("none" : Str)]) ⟨#[32]⟩ = [("none" : Str)] := split_join (by simp) fun w hw => by
      rw [List.mem_singleton.mp hw, lit_none]
      decide
    exact this
  · rw [if_neg c, if_neg c, lit_space]
    refine split_join (fun z => c (List.map_eq_nil_iff.mp z)) fun w hw => ?_
    obtain ⟨b, hb', rfl⟩ := List.mem_map.mp hw
    exact sT_free h (hb b hb')
theorem fT_len (h : Wds ws) {fs : List Nat} (hb : ∀ b ∈ fs, b < 2 ^ ws.length) (hn : fs.length ≤ 100) : (fT ws fs).length ≤ 7300 := by
  unfold fT
  by_cases c : fs = []
  · rw [if_pos c, lit_none]
    decide
  · rw [if_neg c, ← len_sg, lit_space, txt_join]
    have h1 := jn_len (c := 32) (M := 72) (xs := (fs.map (sT ws)).map sg) fun x hx => by
      obtain ⟨w, hw, rfl⟩ := List.mem_map.mp hx
      obtain ⟨b, hb', rfl⟩ := List.mem_map.mp hw
      rw [len_sg]
      exact sT_len h (hb b hb')
    rw [List.length_map, List.length_map] at h1
    exact Nat.le_trans h1 (Nat.mul_le_mul hn (Nat.le_refl 73))
theorem idx_wds (h : Wds ws) (ha : a < 2 ^ ws.length) : (wds ws a).map (fun w => ws.idxOf w) = Fam.nms 8 a := by
  unfold wds
  rw [List.map_map]
  have : ∀ k ∈ Fam.nms 8 a, ((fun w => ws.idxOf w) ∘ fun k => ws.getD k Str.empty) k = k := fun k hk => by
    have hl := nms_lt ha hk
    show ws.idxOf (ws.getD k Str.empty) = k
    rw [List.getD_eq_getElem?_getD, List.getElem?_eq_getElem hl, Option.getD_some]
    exact h.nd.idxOf_getElem k hl
  rw [List.map_congr_left this, List.map_id']
end
end Tx
namespace L2
open PySem PySem.Spec PyProof.Rows
theorem flat_s (ys : List Str) : (sV ys).all flatV = true := by
  rw [List.all_eq_true]
  intro x hx
  obtain ⟨z, _, rfl⟩ := List.mem_map.mp hx
  rfl
theorem eqVs_s (a b : List Str) : eqVs (sV a) (sV b) = decide (a = b) := by
  unfold eqVs
  rw [List.length_map, List.length_map]
  by_cases hl : a.length = b.length
  · rw [show (a.length == b.length) = true by simpa using hl, Bool.true_and]
    rw [Bool.eq_iff_iff, List.all_eq_true, decide_eq_true_eq]
    constructor
    · intro h
      refine List.ext_getElem hl fun i h1 h2 => ?_
      have q := h i (List.mem_range.mpr h1)
      simpa [List.getD, h1, h2, eqV] using q
    · rintro rfl j hj
      have hj' := List.mem_range.mp hj
      simp [List.getD, hj', eqV]
  · rw [show (a.length == b.length) = false by simpa using hl, Bool.false_and]
    exact (decide_eq_false fun e => hl (by rw [e])).symm
theorem inV_s (w : Str) (ys : List Str) : inV (.str w) (sV ys) = decide (w ∈ ys) := by
  unfold inV
  rw [Bool.eq_iff_iff, List.any_eq_true, decide_eq_true_eq]
  constructor
  · rintro ⟨x, hx, e⟩
    obtain ⟨z, hz, rfl⟩ := List.mem_map.mp hx
    have : z = w := by simpa [eqV] using e
    exact this ▸ hz
  · intro h
    exact ⟨.str w, List.mem_map.mpr ⟨w, h, rfl⟩, by simp [eqV]⟩
theorem sV_len (ys : List Str) : (sV ys).length = ys.length := List.length_map _
theorem atI_s {ys : List Str} {i : Nat} {w : Str} (h : ys[i]? = some w) : atI (sV ys) (i : Int) = some (.str w) := atI_nat (by rw [List.getElem?_map, h]; rfl)
theorem sum_len {M : Nat} : ∀ {ys : List Str}, (∀ y ∈ ys, y.length ≤ M) → (ys.map (·.length)).sum ≤ ys.length * M
  | [], _ => Nat.zero_le _
  | y :: ys, h => by
    rw [List.map_cons, List.sum_cons, List.length_cons, Nat.add_mul, Nat.one_mul]
    have h1 := h y List.mem_cons_self
    have h2 := sum_len (M := M) (ys := ys) fun z hz => h z (List.mem_cons_of_mem _ hz)
    omega
theorem join_fits {M N : Nat} {ys : List Str} {sep : Str} (h : ∀ y ∈ ys, y.length ≤ M) (hn : ys.length ≤ N) (hs : sep.length ≤ 1) (hM : N * (M + 1) ≤ 16777216) : (ys.map (·.length)).sum + ys.length * sep.length ≤ 16777216 := by
  have h1 := sum_len h
  have h2 : ys.length * sep.length ≤ ys.length * 1 := Nat.mul_le_mul_left _ hs
  have h3 : ys.length * (M + 1) ≤ N * (M + 1) := Nat.mul_le_mul_right _ hn
  rw [Nat.mul_add] at h3
  omega
def tx (c : Nat) (ys : List Str) : Str := ⟨((ys.map fun y => c :: Tx.sg y).flatten).toArray⟩
theorem nms_eq {m a : Nat} (hm : m ≤ 8) (ha : a < 2 ^ m) : Fam.nms m a = Fam.nms 8 a := by
  obtain ⟨d, e⟩ : ∃ d, 8 = m + d := ⟨8 - m, by omega⟩
  rw [show Fam.nms 8 a = Fam.nms (m + d) a from by rw [← e]]
  unfold Fam.nms
  rw [List.range_add, List.filter_append]
  have : ((List.range d).map (m + ·)).filter (fun k => a.testBit k) = [] := by
    rw [List.filter_eq_nil_iff]
    intro k hk
    obtain ⟨j, _, rfl⟩ := List.mem_map.mp hk
    rw [Nat.testBit_lt_two_pow (Nat.lt_of_lt_of_le ha (Nat.pow_le_pow_right (by decide) (Nat.le_add_right m j)))]
    simp
  rw [this, List.append_nil]
end L2
namespace L2
open PySem PySem.Spec PyProof.Rows
abbrev abc : Str := "abcdefghijklmnopqrstuvwxyz"
theorem abc_at : ∀ i, i < 26 → abc.cps[i]? = some (97 + i) := by decide +kernel
theorem abc_len : abc.length = 26 := by decide +kernel
def Ls (z : Str) : Prop := ∀ c ∈ Tx.sg z, 97 ≤ c ∧ c ≤ 122
theorem map_sV {α : Type} (L : List α) (g : α → Str) : L.map (fun k => V.str (g k)) = sV (L.map g) := by
  show _ = List.map V.str (List.map _ _)
  rw [List.map_map]
  rfl
theorem sg_joinE : ∀ ys : List Str, Tx.sg (Str.join ⟨#[]⟩ ys) = (ys.map Tx.sg).flatten
  | [] => rfl
  | [x] => by simp [Str.join]
  | x :: y :: r => by
    show Tx.sg (x ++ ⟨#[]⟩ ++ Str.join ⟨#[]⟩ (y :: r)) = _
    rw [Tx.sg_app, Tx.sg_app, sg_joinE (y :: r), List.map_cons, List.flatten_cons]
    simp [Tx.sg]
theorem txt_joinE (ys : List Str) : Tx.sg (Txt.join ("" : Str) ys) = (ys.map Tx.sg).flatten := by
  rw [Tx.lit_empty, show Txt.join ⟨#[]⟩ ys = Str.join ⟨#[]⟩ ys from StrLaws.glued_eq_join _ _, sg_joinE]
theorem stem_ok {ys : List Str} (h : ∀ y ∈ ys, ∃ c, y = ⟨#[c]⟩ ∧ 97 ≤ c ∧ c ≤ 122) : (Txt.join ("" : Str) ys).length = ys.length ∧ Ls (Txt.join ("" : Str) ys) := by
  constructor
  · rw [← Tx.len_sg, txt_joinE]
    induction ys with
    | nil => rfl
    | cons y ys ih =>
      obtain ⟨c, rfl, _⟩ := h y List.mem_cons_self
      rw [List.map_cons, List.flatten_cons, List.length_append, ih fun z hz => h z (List.mem_cons_of_mem _ hz), List.length_cons]
      show 1 + ys.length = ys.length + 1
      omega
  · intro c hc
    rw [txt_joinE] at hc
    obtain ⟨l, hl, hc⟩ := List.mem_flatten.mp hc
    obtain ⟨y, hy, rfl⟩ := List.mem_map.mp hl
    obtain ⟨d, rfl, h1, h2⟩ := h y hy
    rw [show c = d from by simpa [Tx.sg] using hc]
    exact ⟨h1, h2⟩
theorem slice_sub {z : Str} {lo hi : Option Int} : ∀ c ∈ Tx.sg (Txt.slice z lo hi), c ∈ Tx.sg z := by
  intro c hc
  unfold Txt.slice at hc
  split at hc
  · exact hc
  · have hc : c ∈ (Builtin.Str.strSliceIndices lo hi 1 z.length).filterMap (z.cps[·]?) := by simpa [Tx.sg] using hc
    obtain ⟨i, _, e⟩ := List.mem_filterMap.mp hc
    have : (Tx.sg z)[i]? = some c := by simpa [Tx.sg] using e
    exact List.mem_of_getElem? this
theorem ls_slice {z : Str} (h : Ls z) {lo hi : Option Int} : Ls (Txt.slice z lo hi) := fun c hc => h c (slice_sub c hc)
theorem ls_app {a b : Str} (h1 : Ls a) (h2 : Ls b) : Ls (a ++ b) := fun c hc => by
  rw [Tx.sg_app] at hc
  rcases List.mem_append.mp hc with z | z
  · exact h1 c z
  · exact h2 c z
theorem ls_one {c : Nat} (h1 : 97 ≤ c) (h2 : c ≤ 122) : Ls ⟨#[c]⟩ := fun d hd => by
  rw [show d = c from by simpa [Tx.sg] using hd]
  exact ⟨h1, h2⟩
theorem len_to {z : Str} {j : Nat} (h : j ≤ z.length) : (Txt.slice z none (some (j : Int))).length = j := by
  have := beq_iff_eq.mp (slice_closes_to (x := z) (j := (j : Int)) ⟨by omega, by rw [show z.cps.toList.length = z.length from Tx.len_sg z]; omega⟩)
  rw [this, ← Tx.len_sg]
  show ((z.cps.toList.drop _).take _).length = j
  rw [List.length_take, List.length_drop, show z.cps.toList.length = z.length from Tx.len_sg z]
  simp <;> omega
theorem len_to_all {z : Str} {j : Int} (h : (z.length : Int) ≤ j) : (Txt.slice z none (some j)).length = z.length := by
  rw [slice_to_beyond h]
  exact len_to (Nat.le_refl _)
theorem len_from {z : Str} {i : Nat} (h : i ≤ z.length) : (Txt.slice z (some (i : Int)) none).length = z.length - i := by
  rw [slice_from_eq (b := z.length) (by omega) (by omega) rfl, ← Tx.len_sg]
  show ((z.cps.toList.drop _).take _).length = _
  rw [List.length_take, List.length_drop, show z.cps.toList.length = z.length from Tx.len_sg z]
  simp <;> omega
theorem len_both {z : Str} {i j : Nat} (h1 : i ≤ j) (h : j ≤ z.length) : (Txt.slice z (some (i : Int)) (some (j : Int))).length = j - i := by
  have := beq_iff_eq.mp (slice_closes (x := z) (i := (i : Int)) (j := (j : Int)) ⟨by omega, by omega, by rw [show z.cps.toList.length = z.length from Tx.len_sg z]; omega⟩)
  rw [this, ← Tx.len_sg]
  show ((z.cps.toList.drop _).take _).length = _
  rw [List.length_take, List.length_drop, show z.cps.toList.length = z.length from Tx.len_sg z]
  simp <;> omega
structure Gd (L : List Str) : Prop where
  few : L.length ≤ 8
  wd : ∀ w ∈ L, Tx.Wd w
  hd : ∃ w, L[0]? = some w ∧ w.length ≠ 4
theorem Gd.of {n : Nat} (G : Nat → Str) (hn : n ≤ 8) (h0 : 0 < n) (h : ∀ k, k < n → Tx.Wd (G k)) (h4 : (G 0).length ≠ 4) : Gd ((List.range n).map G) := by
  refine ⟨by simpa using hn, fun w hw => ?_, G 0, ?_, h4⟩
  · obtain ⟨k, hk, rfl⟩ := List.mem_map.mp hw
    exact h k (List.mem_range.mp hk)
  · rw [List.getElem?_map, List.getElem?_range h0]
    rfl
end L2
namespace Fly
open PySem
structure Left (fs ch : List Addr) (h h' : Heap) : Prop where
  keep : ∀ b o, h.get? b = some o → b ∉ fs → b ∉ ch → h'.get? b = some o
  slot : ∀ b o, h.get? b = some o → b ∈ fs → b ∉ ch → ∃ sl, h'.get? b = some { o with slots := sl }
def At (h : Heap) (e T : Addr) (cls fl : Value) : Prop :=
  T ≠ e ∧ ∃ oe vs oT ts, h.get? e = some oe ∧ oe.cls = cls ∧ oe.data = .fields vs ∧ vs[1]? = some (.ref T) ∧ h.get? T = some oT ∧ oT.data = .fields ts ∧ ts[3]? = some fl
theorem Left.trans {fs ch : List Addr} {h1 h2 h3 : Heap} (a : Left fs ch h1 h2) (b : Left fs ch h2 h3) : Left fs ch h1 h3 :=
  ⟨fun x o q n1 n2 => b.keep x o (a.keep x o q n1 n2) n1 n2, fun x o q n1 n2 => by
    obtain ⟨sl, q1⟩ := a.slot x o q n1 n2
    obtain ⟨sl2, q2⟩ := b.slot x _ q1 n1 n2
    exact ⟨sl2, q2⟩⟩
theorem Left.mono {fs fs' ch ch' : List Addr} {h h' : Heap} (a : Left fs ch h h') (hf : ∀ b ∈ fs, b ∈ fs') (hc : ∀ b ∈ ch, b ∈ ch') : Left fs' ch' h h' :=
  ⟨fun x o q n1 n2 => a.keep x o q (fun z => n1 (hf x z)) (fun z => n2 (hc x z)), fun x o q _ n2 => by
    by_cases c : x ∈ fs
    · exact a.slot x o q c fun z => n2 (hc x z)
    · exact ⟨o.slots, a.keep x o q c fun z => n2 (hc x z)⟩⟩
section
variable {M : Model} {A : Around} {E : Value → Shared → Prop} {s : Shared} {base : Heap} {env : Env} {outer : List Env} {L e : Addr}
theorem entry {oe : Obj} {vs : Array Value} {hd : Value} {nx : Bool} {Q : Unit → Shared → Prop}
    (hA : A.frames = some (env :: outer)) (hF : s.heap.FunFrames base (env :: outer)) (hL : env.frame = some L) (he : s.heap.get? e = some oe) (hv : oe.data = .fields vs) (hz : 1 < vs.size)
    (k : ∀ h' T, s.heap.get? T = none → Left ((env :: outer).filterMap (·.frame)) [e] s.heap h' → At h' e T oe.cls (rawInt L) → Q () { s with heap := h' }) :
    wpAny M A (do let fr ← frameOf env; let pl ← entryPlaceOf L nx; let en ← EntryCells.newEntry hd fr .none (rawInt L) .none pl; setField (.ref e) 1 en) Q E s := by
  have hef : e ∉ (env :: outer).filterMap (·.frame) := fun z => by
    obtain ⟨_, o, q, nf⟩ := hF.mem z
    rw [he] at q
    cases q
    exact nf vs hv
  refine wpAny_bind (wpAny_frameOf_fun hA hF hL fun h1 s1 => ?_)
  refine wpAny_bind (wpAny_entryPlaceOf fun pl ip => ?_)
  unfold EntryCells.newEntry newFields
  refine wpAny_bind (wpAny_newObj_type ?_ (ip.sizeOk5 _ _ _ _ _))
  have e1 : h1.get? e = some oe := (s1.2.1 e hef).trans he
  generalize gT : ({ cls := .type "traceback", dict := none, data := .fields ([hd, .ref L, .none, rawInt L, .none] ++ (if pl.isEmpty then List.replicate 6 Value.none else pl)).toArray } : Obj) = oT
  have e2 := Heap.get?_push_of_some (h := h1) oT e1
  refine wpAny_setField e2 hv hz (k _ h1.objs.size ?_ ?_ ?_)
  · cases q : s.heap.get? h1.objs.size with
    | none => rfl
    | some o =>
      have := Heap.lt_size q
      rw [s1.1] at this
      exact absurd this (Nat.lt_irrefl _)
  · refine ⟨fun b o q n1 n2 => ?_, fun b o q n1 n2 => ?_⟩
    · rw [Heap.get?_update_other _ _ (fun z => n2 (by rw [← z]; exact .head _))]
      exact Heap.get?_push_of_some _ ((s1.2.1 b n1).trans q)
    · obtain ⟨sl, q1⟩ := s1.2.2 b o q
      refine ⟨sl, ?_⟩
      rw [Heap.get?_update_other _ _ (fun z => n2 (by rw [← z]; exact .head _))]
      exact Heap.get?_push_of_some _ q1
  · have ne : h1.objs.size ≠ e := Nat.ne_of_gt (Heap.lt_size e1)
    have d3 := Obj.data_mapFields hv (·.setIfInBounds 1 (Value.ref h1.objs.size))
    refine ⟨ne, _, _, oT, _, Heap.get?_update_self (Obj.mapFields (·.setIfInBounds 1 (Value.ref h1.objs.size))) e2 (Obj.isFreed_of_fields d3), Obj.cls_mapFields _ _, d3, by simp [hz], ?_, by rw [← gT], by simp⟩
    rw [Heap.get?_update_other _ _ (Ne.symm ne)]
    exact Heap.get?_push_size h1 (by rw [← gT]; rfl)
theorem lands {T : Addr} {cls fl : Value} {Q : Unit → Shared → Prop} (x : At s.heap e T cls fl) (k : ∀ h', Left [] [T] s.heap h' → At h' e T cls .none → Q () { s with heap := h' }) :
    wpAny M A (setFlight (.ref e) none) Q E s := by
  obtain ⟨ne, oe, vs, oT, ts, he, hc, hv, h1, hT, ht, h3⟩ := x
  have hz : 3 < ts.size := (Array.getElem?_eq_some_iff.mp h3).1
  refine wpAny_setFlight_none he hv h1 hT ht hz (k _ ⟨fun b o q _ n => ?_, fun b _ _ z => absurd z (by simp)⟩ ?_)
  · rw [Heap.get?_update_other _ _ (fun z => n (by rw [← z]; exact .head _))]
    exact q
  · refine ⟨ne, oe, vs, _, _, ?_, hc, hv, h1, Heap.get?_update_self _ hT (Obj.isFreed_of_fields (Obj.data_mapFields ht _)), Obj.data_mapFields ht _, by simp [hz]⟩
    rw [Heap.get?_update_other _ _ ne]
    exact he
theorem leave1 {oe : Obj} {vs : Array Value} {Q : Unit → Shared → Prop}
    (hA : A.frames = some (env :: outer)) (hF : s.heap.FunFrames base (env :: outer)) (hL : env.frame = some L) (he : s.heap.get? e = some oe) (hv : oe.data = .fields vs) (h1 : vs[1]? = some .none)
    (k : ∀ h' T, s.heap.get? T = none → Left ((env :: outer).filterMap (·.frame)) [e, T] s.heap h' → At h' e T oe.cls .none → Q () { s with heap := h' }) :
    wpAny M A (leaving env (.ref e)) Q E s := by
  unfold leaving noteFrame
  simp only [hL]
  refine wpAny_bind (wpAny_bind (wpAny_field he hv h1 ?_))
  rw [if_neg (by decide)]
  refine entry hA hF hL he hv (Array.getElem?_eq_some_iff.mp h1).1 fun h' T nT l1 a1 => ?_
  refine lands (s := { s with heap := h' }) a1 fun h2 l2 a2 => k h2 T nT ?_ a2
  exact (l1.mono (fun _ z => z) (fun b z => by simp at z ⊢; exact .inl z)).trans (l2.mono (fun _ z => absurd z (by simp)) (fun b z => by simp at z ⊢; exact .inr z))
theorem noted {T : Addr} {cls : Value} {Q : Unit → Shared → Prop}
    (hA : A.frames = some (env :: outer)) (hF : s.heap.FunFrames base (env :: outer)) (hL : env.frame = some L) (x : At s.heap e T cls .none)
    (k : ∀ h' T2, s.heap.get? T2 = none → Left ((env :: outer).filterMap (·.frame)) [e, T] s.heap h' → At h' e T2 cls (rawInt L) → Q () { s with heap := h' }) :
    wpAny M A (noteFrame (.ref e) env) Q E s := by
  obtain ⟨ne, oe, vs, oT, ts, he, hc, hv, h1, hT, ht, h3⟩ := x
  subst hc
  unfold noteFrame
  simp only [hL]
  refine wpAny_bind (wpAny_field he hv h1 ?_)
  rw [if_pos (show (Value.ref T != Value.none) = true from by simp)]
  refine wpAny_bind (wpAny_field hT ht h3 ?_)
  rw [if_neg (show ¬ ((Value.none == rawInt L) = true) from by simp [rawInt])]
  refine wpAny_bind (wpAny_setField hT ht (Array.getElem?_eq_some_iff.mp h3).1 ?_)
  generalize gh : s.heap.update T (Obj.mapFields (·.setIfInBounds 3 Value.none)) = h2
  have ot : ∀ b, b ≠ T → h2.get? b = s.heap.get? b := fun b hb => by rw [← gh]; exact Heap.get?_update_other _ _ (Ne.symm hb)
  have ntT : ∀ b o, s.heap.get? b = some o → (∀ vs, o.data ≠ .fields vs) → b ≠ T := fun b o q nf z => by
    rw [z, hT] at q
    cases q
    exact nf ts ht
  refine entry (s := { s with heap := h2 }) hA (hF.of_keeps fun b o q nf => ⟨o, (ot b (ntT b o q nf)).trans q, rfl⟩) hL ((ot e (Ne.symm ne)).trans he) hv (Array.getElem?_eq_some_iff.mp h1).1 fun h' T2 n2 l a => k h' T2 ?_ ⟨fun b o q n1 n3 => ?_, fun b o q n1 n3 => ?_⟩ a
  · cases q : s.heap.get? T2 with
    | none => rfl
    | some o =>
      by_cases c : T2 = T
      · rw [c] at n2
        rw [show ({ s with heap := h2 } : Shared).heap = h2 from rfl, ← gh, Heap.get?_update_self _ hT (Obj.isFreed_of_fields (Obj.data_mapFields ht _))] at n2
        cases n2
      · have := (ot T2 c).trans q
        rw [show h2.get? T2 = none from n2] at this
        cases this
  · simp only [List.mem_cons, List.not_mem_nil, or_false, not_or] at n3
    exact l.keep b o ((ot b n3.2).trans q) n1 (by simpa using n3.1)
  · simp only [List.mem_cons, List.not_mem_nil, or_false, not_or] at n3
    exact l.slot b o ((ot b n3.2).trans q) n1 (by simpa using n3.1)
theorem leave2 {T : Addr} {cls : Value} {Q : Unit → Shared → Prop}
    (hA : A.frames = some (env :: outer)) (hF : s.heap.FunFrames base (env :: outer)) (hL : env.frame = some L) (x : At s.heap e T cls .none)
    (k : ∀ h' T2, s.heap.get? T2 = none → Left ((env :: outer).filterMap (·.frame)) [e, T, T2] s.heap h' → At h' e T2 cls .none → Q () { s with heap := h' }) :
    wpAny M A (leaving env (.ref e)) Q E s := by
  unfold leaving
  refine wpAny_bind (noted hA hF hL x fun h' T2 nT l1 a1 => ?_)
  refine lands (s := { s with heap := h' }) a1 fun h2 l2 a2 => k h2 T2 nT ?_ a2
  exact (l1.mono (fun _ z => z) (fun b z => by simp at z ⊢; rcases z with z | z <;> simp [z])).trans (l2.mono (fun _ z => absurd z (by simp)) (fun b z => by simp at z ⊢; simp [z]))
end
end Fly
namespace Fly
open PySem
abbrev Lk {α : Type} (h : Heap) (t : Sem α) (r : α) : Prop := ∀ {M : Model} {A : Around} {E : Value → Shared → Prop} {g : Array GenState} {d : Drawn} {tk : Nat} {os : OsState} {Q : α → Shared → Prop}, Q r ⟨h, g, d, tk, os⟩ → wpAny M A t Q E ⟨h, g, d, tk, os⟩
structure Cl (h : Heap) (C : Addr) : Prop where
  ga : Lk h (typeLookup (.ref C) "__getattribute__") (some (.builtin "BaseException.__getattribute__"))
  gt : Lk h (typeLookup (.ref C) "__getattr__") none
  cl : Lk h (typeLookup (.ref C) "__class__") (some (.builtin "object.__class__"))
  be : Lk h (isSubtype (.ref C) (.type "BaseException")) true
  ob : Lk h (isSubtype (.ref C) (.type "object")) true
section
variable {prog : Program} {w : World} {A : Around} {E : Value → Shared → Prop} {h : Heap} {g : Array GenState} {d : Drawn} {t : Nat} {os : OsState} {a C : Addr} {o : Obj}
theorem cls_get {R : Result → Shared → Prop} (c : Cl h C) (hx : h.get? a = some o) (hc : o.cls = .ref C) (hq : R (.ok (.ret (.ref C))) ⟨h, g, d, t, os⟩) :
    codeAny (model prog w) A (.call (.builtin "getset_descriptor.__get__") ⟨[.builtin "object.__class__", .ref a, .ref C], []⟩) R ⟨h, g, d, t, os⟩ := by
  have k5 : (⟨h, g, d, t, os⟩ : Shared).TypeIs (.builtin "object.__class__") "getset_descriptor" := F.typeOf_object_class
  have c8 : Lk h (isSubtype (.ref C) (.type (".".intercalate ("object.__class__".cutAt '.').dropLast))) true := by
    rw [F.owner_object_class]
    intro M A E g d tk os Q z
    exact c.ob z
  refine codeAny_call_builtin F.slot_gs_get.plain F.entry_gs_get (F.slot_gs_get.check _ _ _ _ _ _ _ _ k5 (F.args_gs_get _ _ _) ?_)
  repeat (any_goals (first | assumption | (with_reducible refine wpAny_loadPart_at hx ?_; rw [hc]) | with_reducible refine c8 ?_ | wp_step))
  refine ⟨Code.quiet_builtin _ (by decide +kernel), codeAny_builtin F.entry_object_class ?_⟩
  repeat (any_goals (first | assumption | (with_reducible refine wpAny_loadPart_at hx ?_; rw [hc]) | wp_step))
theorem cls_entry {tk : Tok} {Q : Fin → Shared → Prop} (c : Cl h C) (hx : h.get? a = some o) (hc : o.cls = .ref C) (hq : Q (.done (.ret (.ref C))) ⟨h, g, d, t, os⟩) :
    wpAny (model prog w) A (Builtin.«object.__getattribute__» ⟨[.ref a, .str "__class__" tk], []⟩) Q E ⟨h, g, d, t, os⟩ := by
  have k5 : (⟨h, g, d, t, os⟩ : Shared).TypeIs (.builtin "object.__class__") "getset_descriptor" := F.typeOf_object_class
  have k6 := F.typeOf_object_class
  have k7 := F.slot_gs_get.lookup
  have k8 := F.slot_gs_set.lookup
  repeat (any_goals (first | assumption | (with_reducible refine wpAny_loadPart_at hx ?_; rw [hc]) | with_reducible refine c.cl ?_ | wp_step))
  refine cls_get c hx hc ?_
  repeat (any_goals (first | assumption | wp_step))
theorem cls_check {M : Model} {nv : Value} {Q : Unit → Shared → Prop} (c : Cl h C) (hx : h.get? a = some o) (hc : o.cls = .ref C) (hq : Q () ⟨h, g, d, t, os⟩) :
    wpAny M A (checkBuiltinCall "BaseException.__getattribute__" ⟨[.ref a, nv], []⟩) Q E ⟨h, g, d, t, os⟩ := by
  have k1 : builtinKind "BaseException.__getattribute__" = some .slot := by decide +kernel
  have k2 : splitId "BaseException.__getattribute__" = some ("BaseException", "__getattribute__") := by decide +kernel
  have k3 := F.args_bexc_ga (.ref a) nv
  simp only [checkBuiltinCall, k1, k2]
  refine wpAny_bind ?_
  unfold isInstance
  repeat (first | (with_reducible refine wpAny_loadPart_at hx ?_; rw [hc]) | with_reducible refine c.be ?_ | wp_step)
  exact hq
theorem cls_call {tk : Tok} {R : Result → Shared → Prop} (c : Cl h C) (hx : h.get? a = some o) (hc : o.cls = .ref C) (hq : R (.ok (.ret (.ref C))) ⟨h, g, d, t, os⟩) :
    codeAny (model prog w) A (.call (.builtin "BaseException.__getattribute__") ⟨[.ref a, .str "__class__" tk], []⟩) R ⟨h, g, d, t, os⟩ :=
  codeAny_call_builtin F.attr_ValueError.ga.plain F.entry_bexc_ga (cls_check c hx hc (cls_entry c hx hc hq))
theorem cls_by {tk : Tok} {Q : Value → Shared → Prop} (c : Cl h C) (hx : h.get? a = some o) (hc : o.cls = .ref C) (hq : Q (.ref C) ⟨h, g, d, t, os⟩) :
    wpAny (model prog w) A (getAttrBy (.ref a) (.str "__class__" tk) false) Q E ⟨h, g, d, t, os⟩ := by
  have k3 := F.attr_ValueError.ga.bind (.ref a)
  have k4 : (Value.builtin "BaseException.__getattribute__" == Value.builtin "object.__getattribute__") = false := by decide +kernel
  have k5 : (onTheHeap (Value.ref C) && Value.builtin "BaseException.__getattribute__" == Value.builtin "object.__getattribute__") = false := by rw [k4]; rfl
  repeat (any_goals (first | assumption | (with_reducible refine wpAny_loadPart_at hx ?_; rw [hc]) | with_reducible refine c.ga ?_ | with_reducible refine c.gt ?_ | wp_step))
  refine cls_call c hx hc ?_
  repeat (any_goals (first | assumption | wp_step))
theorem cls_attr {Q : Option Value → Shared → Prop} (c : Cl h C) (hx : h.get? a = some o) (hc : o.cls = .ref C) (hq : Q (some (.ref C)) ⟨h, g, d, t + 1, os⟩) :
    wpAny (model prog w) A (getAttr? (.ref a) "__class__") Q E ⟨h, g, d, t, os⟩ := by
  unfold getAttr? getAttrBy?
  repeat (any_goals (first | assumption | with_reducible apply cls_by c hx hc | wp_step))
theorem matches_own {M : Model} {B : Addr} {cdB : ClassData} {ddB : Option Addr} {slB : Array (Option Value)} {b : Bool} {Q : Bool → Shared → Prop} (hx : h.get? a = some o) (hc : o.cls = .ref C)
    (hB : h.get? B = some { cls := .type "type", dict := ddB, data := .cls cdB, slots := slB })
    (be : Lk h (isSubtype (.ref B) (.type "BaseException")) true) (su : Lk h (isSubtype (.ref C) (.ref B)) b) (hq : Q b ⟨h, g, d, t, os⟩) : wpAny M A (excMatches (.ref a) (.ref B)) Q E ⟨h, g, d, t, os⟩ := by
  have k1 := tc_notTuple
  unfold excMatches
  cases b <;> (repeat (first | (with_reducible refine wpAny_loadPart_at hx ?_; rw [hc]) | with_reducible refine wpAny_loadPart_at hB ?_ | with_reducible refine be ?_ | with_reducible refine su ?_ | wp_step)) <;> exact hq
end
end Fly
namespace Fly
open PySem
section
variable {M : Model} {A : Around} {E : Value → Shared → Prop} {s : Shared} {base : Heap} {env : Env} {outer : List Env} {L e : Addr}
theorem note_env {env env' : Env} (h : env'.frame = env.frame) (x : Value) : noteFrame x env' = noteFrame x env := by
  unfold noteFrame frameOf
  rw [h]
theorem notedA {T : Addr} {cls fl : Value} {Q : Unit → Shared → Prop}
    (hA : A.frames = some (env :: outer)) (hF : s.heap.FunFrames base (env :: outer)) (hL : env.frame = some L) (x : At s.heap e T cls fl)
    (k : ∀ h' T2, (T2 = T ∨ s.heap.get? T2 = none) → Left ((env :: outer).filterMap (·.frame)) [e, T] s.heap h' → At h' e T2 cls (rawInt L) → Q () { s with heap := h' }) :
    wpAny M A (noteFrame (.ref e) env) Q E s := by
  obtain ⟨ne, oe, vs, oT, ts, he, hc, hv, h1, hT, ht, h3⟩ := id x
  subst hc
  unfold noteFrame
  simp only [hL]
  refine wpAny_bind (wpAny_field he hv h1 ?_)
  rw [if_pos (show (Value.ref T != Value.none) = true from by simp)]
  refine wpAny_bind (wpAny_field hT ht h3 ?_)
  by_cases c : (fl == rawInt L) = true
  · rw [if_pos c]
    have c := beq_iff_eq.mp c
    subst c
    exact wpAny_pure (k s.heap T (.inl rfl) ⟨fun _ _ q _ _ => q, fun b o q _ _ => ⟨o.slots, q⟩⟩ x)
  rw [if_neg c]
  refine wpAny_bind (wpAny_setField hT ht (Array.getElem?_eq_some_iff.mp h3).1 ?_)
  generalize gh : s.heap.update T (Obj.mapFields (·.setIfInBounds 3 Value.none)) = h2
  have ot : ∀ b, b ≠ T → h2.get? b = s.heap.get? b := fun b hb => by rw [← gh]; exact Heap.get?_update_other _ _ (Ne.symm hb)
  have ntT : ∀ b o, s.heap.get? b = some o → (∀ vs, o.data ≠ .fields vs) → b ≠ T := fun b o q nf z => by
    rw [z, hT] at q
    cases q
    exact nf ts ht
  refine entry (s := { s with heap := h2 }) hA (hF.of_keeps fun b o q nf => ⟨o, (ot b (ntT b o q nf)).trans q, rfl⟩) hL ((ot e (Ne.symm ne)).trans he) hv (Array.getElem?_eq_some_iff.mp h1).1 fun h' T2 n2 l a => k h' T2 (.inr ?_) ⟨fun b o q n1 n3 => ?_, fun b o q n1 n3 => ?_⟩ a
  · cases q : s.heap.get? T2 with
    | none => rfl
    | some o =>
      by_cases c : T2 = T
      · rw [c] at n2
        rw [show ({ s with heap := h2 } : Shared).heap = h2 from rfl, ← gh, Heap.get?_update_self _ hT (Obj.isFreed_of_fields (Obj.data_mapFields ht _))] at n2
        cases n2
      · have := (ot T2 c).trans q
        rw [show h2.get? T2 = none from n2] at this
        cases this
  · simp only [List.mem_cons, List.not_mem_nil, or_false, not_or] at n3
    exact l.keep b o ((ot b n3.2).trans q) n1 (by simpa using n3.1)
  · simp only [List.mem_cons, List.not_mem_nil, or_false, not_or] at n3
    exact l.slot b o ((ot b n3.2).trans q) n1 (by simpa using n3.1)
theorem marked {T : Addr} {cls fl : Value} {f : Option Addr} {Q : Unit → Shared → Prop} (x : At s.heap e T cls fl) (k : ∀ h' fl', Left [] [T] s.heap h' → At h' e T cls fl' → Q () { s with heap := h' }) :
    wpAny M A (setFlight (.ref e) f) Q E s := by
  obtain ⟨ne, oe, vs, oT, ts, he, hc, hv, h1, hT, ht, h3⟩ := x
  have hz : 3 < ts.size := (Array.getElem?_eq_some_iff.mp h3).1
  unfold setFlight
  refine wpAny_bind (wpAny_field he hv h1 ?_)
  rw [if_pos (show (Value.ref T != Value.none) = true from by simp)]
  refine wpAny_setField hT ht hz (k _ (f.elim .none fun f => rawInt f) ⟨fun b o q _ n => ?_, fun b _ _ z => absurd z (by simp)⟩ ?_)
  · rw [Heap.get?_update_other _ _ (fun z => n (by rw [← z]; exact .head _))]
    exact q
  · refine ⟨ne, oe, vs, _, _, ?_, hc, hv, h1, Heap.get?_update_self _ hT (Obj.isFreed_of_fields (Obj.data_mapFields ht _)), Obj.data_mapFields ht _, by simp [hz]⟩
    rw [Heap.get?_update_other _ _ ne]
    exact he
theorem passes {α : Type} {T : Addr} {cls fl : Value} {what : String} {Q : α → Shared → Prop} (x : At s.heap e T cls fl) (k : ∀ h' fl', Left [] [T] s.heap h' → At h' e T cls fl' → E (.ref e) { s with heap := h' }) :
    wpAny M A (passOn what (.ref e) env : Sem α) Q E s := by
  obtain ⟨ne, oe, vs, oT, ts, he, hc, hv, h1, hT, ht, h3⟩ := id x
  unfold passOn
  refine wpAny_bind (wpAny_field he hv h1 ?_)
  rw [if_neg (show ¬ ((Value.ref T == Value.none) = true) from by simp)]
  exact wpAny_bind (marked x fun h' fl' l a => wpAny_throw (k h' fl' l a))
end
end Fly
namespace L2
open PySem PySem.Spec PyProof.Rows
section
variable {P : Program} {w : World} {H H' : Hp} {h h1 h2 : Heap} {fs fs' ch : List Addr}
theorem ObjOk.some {a : Addr} {o : HO} (x : ObjOk P w H h a o) : ∃ ob, h.get? a = some ob := by
  cases o with
  | lst xs => obtain ⟨_, _, _, _, e⟩ := x; exact ⟨_, e⟩
  | tup xs => obtain ⟨_, _, _, _, e, _⟩ := x; exact ⟨_, e⟩
  | dK kvs => obtain ⟨_, _, _, _, o, _, _, e, _⟩ := x; exact ⟨_, e⟩
  | dT kvs => obtain ⟨_, _, _, _, o, _, _, e, _⟩ := x; exact ⟨_, e⟩
  | set S n => obtain ⟨o, _, _, _, e, _⟩ := x; exact ⟨_, e⟩
  | ins C dx fs => obtain ⟨_, _, _, e, _⟩ := x; exact ⟨_, e⟩
  | own y => exact x
  | xd fs => obtain ⟨_, ⟨_, _, _, e, _⟩, _⟩ := x; exact ⟨_, e⟩
  | rng lo hi => obtain ⟨_, _, _, e⟩ := x; exact ⟨_, e⟩
  | frz ob u => obtain ⟨e, _⟩ := x; exact ⟨_, e⟩
  | tbl ps => exact ⟨_, x⟩
  | met f y => exact ⟨_, x⟩
  | ext φ => obtain ⟨_, e, _⟩ := x; exact e
theorem HOk.none_of (x : HOk P w H h) {a : Addr} (e : h.get? a = none) : H a = none := by
  cases q : H a with
  | none => rfl
  | some o =>
    obtain ⟨ob, z⟩ := (x a o q).some
    rw [e] at z
    cases z
theorem Un.left (u : Un fs [] H H' h h1) (l : Fly.Left fs' ch h1 h2) (hf : ∀ b o, h.get? b = some o → b ∈ fs' → b ∈ fs) (hc : ∀ b ∈ ch, h.get? b = none) : Un fs [] H H' h h2 := by
  have nc : ∀ b o, h.get? b = some o → b ∉ ch := fun b o q z => by rw [hc b z] at q; cases q
  refine ⟨fun b o q n n1 n2 => l.keep b o (u.keep b o q n n1 n2) (fun z => n1 (hf b o q z)) (nc b o q), fun b o q n n1 n2 => ?_, u.free, fun b o q n2 => ?_, u.tups, u.frzs, u.tbls⟩
  · obtain ⟨sl, q1⟩ := u.slot b o q n n1 n2
    by_cases c : b ∈ fs'
    · obtain ⟨sl2, q2⟩ := l.slot b _ q1 c (nc b o q)
      exact ⟨sl2, q2⟩
    · exact ⟨sl, l.keep b _ q1 c (nc b o q)⟩
  · obtain ⟨o', q1⟩ := u.there b o q n2
    by_cases c : b ∈ fs'
    · obtain ⟨sl2, q2⟩ := l.slot b _ q1 c (nc b o q)
      exact ⟨_, q2⟩
    · exact ⟨_, l.keep b _ q1 c (nc b o q)⟩
theorem HOk.left (x : HOk P w H h1) (l : Fly.Left fs' ch h1 h2) (hf : ∀ b ∈ fs', H b = none) (hc : ∀ b ∈ ch, H b = none) : HOk P w H h2 := fun b ob e => by
  have no : ∀ c, (c = b ∨ H c = Option.some (.own b)) → H c ≠ none := fun c z => by
    rcases z with rfl | z
    · rw [e]; simp
    · rw [z]; simp
  exact (x b ob e).stay (fun c v hz q => l.keep c v q (fun z => no c hz (hf c z)) fun z => no c hz (hc c z)) (fun _ q => q) fun _ _ q => q
end
def CX1 (P : Program) (w : World) : CXT := fun outer H s E x s' => ∃ (e T C : Addr) (H' : Hp), x = .ref e ∧ s'.os = s.os ∧ AllBare s'.gens ∧ Un (frs outer) [] H H' s.heap s'.heap ∧ HOk P w H' s'.heap ∧
  s.heap.get? e = none ∧ s.heap.get? T = none ∧ H' e = none ∧ H' T = none ∧ Fly.At s'.heap e T (.ref C) .none ∧ E (.ref C) none H'
section
variable {P : Program} {w : World} {K : PySem.W.Frag} {mg : Str → Option Value} {base : Heap} {N : List Str} {qual : Str} {scope : Scope} {f : Addr} {cd : Value} {A : Around} {outer : List Env} {s0 : Shared} {H0 : Hp} {E : XK}
  {pins : List (Addr × Obj)} {σ : St} {H : Hp} {s : Shared}
theorem throw_cx {e C : Addr} {args : List Value} {h' : Heap} (I : Inv (cxOf (CX1 P w) P w K mg base N qual scope f cd A outer s0 H0 E) pins σ H s) (mk : Heap.MadeExcOf s.heap h' e (.ref C) args) (q : E (.ref C) none H) :
    (cxOf (CX1 P w) P w K mg base N qual scope f cd A outer s0 H0 E).xe (.ref e) { s with heap := h' } := by
  obtain ⟨t, he, nt, ht⟩ := mk.there
  have up : ∀ b o, s0.heap.get? b = some o → ∃ o', s.heap.get? b = some o' := fun b o z => I.base.there b o z (by show b ∉ []; simp)
  have no : ∀ b, s.heap.get? b = none → s0.heap.get? b = none := fun b z => by
    cases c : s0.heap.get? b with
    | none => rfl
    | some o =>
      obtain ⟨o', c2⟩ := up b o c
      rw [z] at c2
      cases c2
  have hk : HOk P w H h' := I.hok.kept mk.keeps
  refine Fly.leave1 (s := { s with heap := h' }) (base := base) I.ok.frames (I.stack.of_keeps fun b o z _ => ⟨o, mk.keeps b o z, rfl⟩) rfl he rfl rfl fun h2 T nT l a => ?_
  have nT' : s.heap.get? T = none := by
    cases c : s.heap.get? T with
    | none => rfl
    | some o => rw [mk.keeps T o c] at nT; cases nT
  have ff : ∀ b ∈ frs (cxOf (CX1 P w) P w K mg base N qual scope f cd A outer s0 H0 E).stack, H b = none := I.stkFree
  have cc : ∀ b ∈ [e, T], H b = none := fun b z => by
    simp only [List.mem_cons, List.not_mem_nil, or_false] at z
    rcases z with rfl | rfl
    · exact I.hok.none_of mk.new
    · exact I.hok.none_of nT'
  refine ⟨e, T, C, H, rfl, I.os, I.bare, ?_, hk.left l ff cc, no e mk.new, no T nT', I.hok.none_of mk.new, I.hok.none_of nT', a, q⟩
  have u1 : Un (frs outer) [] H0 H s0.heap h' := Un.left I.base (fs' := []) (ch := []) ⟨fun b o z _ _ => mk.keeps b o z, fun b _ _ z => absurd z (by simp)⟩ (fun _ _ _ z => absurd z (by simp)) (fun _ z => absurd z (by simp))
  refine u1.left l (fun b o z m => ?_) (fun b z => ?_)
  · rcases List.mem_cons.mp (I.stkSub b m) with c | c
    · have l1 := Heap.lt_size z
      have l2 : s0.heap.objs.size ≤ _ := I.ok.above
      rw [c] at l1
      exact absurd l1 (Nat.not_lt.mpr l2)
    · exact c
  · simp only [List.mem_cons, List.not_mem_nil, or_false] at z
    rcases z with rfl | rfl
    · exact no _ mk.new
    · exact no _ nT'
theorem pass_cx : Passes (CX1 P w) (cxOf (CX1 P w) P w K mg base N qual scope f cd A outer s0 H0 E) E := by
  rintro pins σ H s x s' I ⟨e, T, C, H', rfl, os, bare, U, hok, n1, n2, n3, n4, a, q⟩
  have J := I.call' os U hok bare (ch := []) fun b z => absurd z (by simp)
  have no : ∀ b, s.heap.get? b = none → s0.heap.get? b = none := fun b z => by
    cases c : s0.heap.get? b with
    | none => rfl
    | some o =>
      obtain ⟨o', c2⟩ := I.base.there b o c (by show b ∉ []; simp)
      rw [z] at c2
      cases c2
  have no' : ∀ b, s'.heap.get? b = none → s0.heap.get? b = none := fun b z => by
    cases c : s0.heap.get? b with
    | none => rfl
    | some o =>
      obtain ⟨o', c2⟩ := J.base.there b o c (by show b ∉ []; simp)
      rw [z] at c2
      cases c2
  refine Fly.leave2 (base := base) J.ok.frames J.stack rfl a fun h2 T2 nT l a2 => ?_
  have cc : ∀ b ∈ [e, T, T2], s0.heap.get? b = none ∧ H' b = none := fun b z => by
    simp only [List.mem_cons, List.not_mem_nil, or_false] at z
    rcases z with rfl | rfl | rfl
    · exact ⟨no _ n1, n3⟩
    · exact ⟨no _ n2, n4⟩
    · exact ⟨no' _ nT, hok.none_of nT⟩
  refine ⟨e, T2, C, H', rfl, J.os, J.bare, ?_, hok.left l J.stkFree fun b z => (cc b z).2, no e n1, no' T2 nT, n3, hok.none_of nT, a2, q⟩
  refine Un.left J.base l (fun b o z m => ?_) fun b z => (cc b z).1
  rcases List.mem_cons.mp (J.stkSub b m) with c | c
  · have l1 := Heap.lt_size z
    have l2 : s0.heap.objs.size ≤ _ := J.ok.above
    rw [c] at l1
    exact absurd l1 (Nat.not_lt.mpr l2)
  · exact c
end
theorem exc_obj {K : PySem.W.Frag} {h : Heap} {C : Addr} {bmB : List Value} {newId : String} (kin : K.In h) (z : PySem.W.excIn K C bmB newId = true) :
    ∃ bm ns nm qn bs hdct sn sub ab col dd k0 k1 k2 k3 k5 mN, h.get? C = some (excClassObj nm qn C ns bs bm hdct sn sub ab col dd k0 k1 k2 k3 k5 newId) ∧ h.Ns ns mN ∧ mN "__init__" = none ∧ OwnTail h bmB bm := by
  unfold PySem.W.excIn at z
  split at z
  next dd cd sl at1 =>
    split at z
    next C2 bm k0 k1 k2 k3 nn k5 em es =>
      simp only [Bool.and_eq_true, beq_iff_eq, Bool.not_eq_true'] at z
      obtain ⟨⟨⟨⟨⟨z1, z2⟩, z3⟩, z4⟩, z5⟩, z6⟩ := z
      subst z1
      subst z2
      obtain ⟨nm, bs, mro, ns, qn, hd, sn, sub, ab, col, del⟩ := cd
      dsimp only at em z3 z5 z6
      subst em
      subst z3
      obtain ⟨ll⟩ := sl
      dsimp only at es
      subst es
      exact ⟨bm, ns, nm, qn, bs, hd, sn, sub, ab, col, dd, k0, k1, k2, k3, k5, _, kin _ _ at1, .of_isNs (PySem.W.isNs_of_in kin z5), PySem.W.nsMap_none_of_in kin z5 z6, PySem.W.tail_of_in kin z4⟩
    next => cases z
  next => cases z
section
variable {X : Cx}
def tRaise (C : Addr) (E : XK) (te : TE) : TS := fun _ σ H => te σ H fun _ H1 => E (.ref C) none H1
def Throws (X : Cx) (E : XK) : Prop := ∀ (pins : List (Addr × Obj)) (σ : St) (H : Hp) (s : Shared) (e C : Addr) (args : List Value) (h' : Heap), Inv X pins σ H s → Heap.MadeExcOf s.heap h' e (.ref C) args → E (.ref C) none H → X.xe (.ref e) { s with heap := h' }
theorem throws_cx {P : Program} {w : World} {K : PySem.W.Frag} {mg : Str → Option Value} {base : Heap} {N : List Str} {qual : Str} {scope : Scope} {f : Addr} {cd : Value} {A : Around} {outer : List Env} {s0 : Shared} {H0 : Hp} {E : XK} :
    Throws (cxOf (CX1 P w) P w K mg base N qual scope f cd A outer s0 H0 E) E := fun _ _ _ _ _ _ _ _ I mk q => throw_cx I mk q
theorem ps_raise {x : Str} {C : Addr} {e : Expr} {te : TE} {E : XK} {np cpos pos : Pos} {bmB : List Value} {B newId initId : String} (hg : Gl X x) (hm : X.mg x = some (.ref C)) (hx : PySem.W.excIn X.K C bmB newId = true)
    (FB : ExcBaseFacts B newId initId bmB) (hc : X.calm = true) (th : Throws X E) (he : PE X e te) (hs : starEach [e] X.env = (false, eval e X.env) :: starEach [] X.env := by rfl) (hdb : (x == ("__debug__" : Str)) = false := by decide) :
    PS X (.Raise (some (.Call (.Name x np) [e] [] cpos)) none pos) (tRaise C E te) := by
  intro pins s σ H D I h
  obtain ⟨bm, ns, nm, qn, bs, hdct, sn, sub, ab, col, dd, k0, k1, k2, k3, k5, mN, o1, o2, o3, o4⟩ := exc_obj I.ok.mod.kin hx
  refine wpAny_Raise_call_subT (C := C) (nm := nm) (q := qn) (N := ns) (bs := bs) (bm := bm) (hdct := hdct) (sn := sn) (sub := sub) (ab := ab) (col := col) (dd := dd) (k0 := k0) (k1 := k1) (k2 := k2) (k3 := k3) (k5 := k5) FB (mN := mN) (o4.hasType FB.hasBase) (I.ok.hd hc) (by rw [hs]; rfl) o3 (ld_glob I hg hm ⟨rfl, ?_⟩ hdb)
  rw [hs]
  refine Calls.evalArgs_plain (Calls.spliced_cons (thn (he pins s σ H _ I h) fun v s1 ⟨y, H1, I1, r1, q1⟩ => Calls.spliced_nil ?_))
  exact ⟨rfl, by show 1 ≤ sizeLine; decide, I1.bk _ _ o1, o2.keeps I1.bk, o4.keeps I1.bk, fun h' e mk => th pins σ H1 s1 e C _ h' I1 mk q1⟩
abbrev Cx.pinned (X : Cx) (ps : List (Addr × Obj)) : Cx := { X with pn := X.pn ++ ps }
abbrev Cx.within (X : Cx) (ps : List (Addr × Obj)) (e : Addr) : Cx := { X with pn := X.pn ++ ps, A := X.A.mark (some (.ref e)), calm := false, xe := fun _ _ => False }
variable {pins ps : List (Addr × Obj)} {σ : St} {H : Hp} {s : Shared} {e : Addr}
theorem Inv.pin1 (I : Inv X pins σ H s) : Inv (X.pinned pins) [] σ H s :=
  ⟨⟨I.ok.mod, I.ok.kind, I.ok.glob, I.ok.blt, I.ok.above, I.ok.inj, I.ok.has, I.ok.cab, I.ok.hd, I.ok.frames, I.ok.stk, I.ok.exf, I.ok.bs, I.ok.bsz, I.ok.noex, I.ok.exfs, I.ok.funs, I.ok.frf⟩, I.os, I.bare, I.base, I.loc, I.cell, I.free, I.freeC, fun p hp => I.pin p (by simpa using hp), I.hok, I.len⟩
theorem Inv.unpin1 (I : Inv (X.pinned pins) ps σ H s) : Inv X pins σ H s :=
  ⟨⟨I.ok.mod, I.ok.kind, I.ok.glob, I.ok.blt, I.ok.above, I.ok.inj, I.ok.has, I.ok.cab, I.ok.hd, I.ok.frames, I.ok.stk, I.ok.exf, I.ok.bs, I.ok.bsz, I.ok.noex, I.ok.exfs, I.ok.funs, I.ok.frf⟩, I.os, I.bare, I.base, I.loc, I.cell, I.free, I.freeC, fun p hp => I.pin p (List.mem_append_left _ hp), I.hok, I.len⟩
theorem Inv.within (I : Inv (X.pinned pins) ps σ H s) : Inv (X.within pins e) [] σ H s :=
  ⟨⟨I.ok.mod, I.ok.kind, I.ok.glob, I.ok.blt, I.ok.above, I.ok.inj, I.ok.has, I.ok.cab, fun z => Bool.noConfusion z, I.ok.frames, I.ok.stk, I.ok.exf, I.ok.bs, I.ok.bsz, I.ok.noex, I.ok.exfs, I.ok.funs, I.ok.frf⟩, I.os, I.bare, I.base, I.loc, I.cell, I.free, I.freeC, fun p hp => I.pin p (List.mem_append_left _ (by simpa using hp)), I.hok, I.len⟩
theorem Inv.outside (I : Inv (X.within pins e) ps σ H s) (ok : X.Ok) : Inv X pins σ H s :=
  ⟨ok, I.os, I.bare, I.base, I.loc, I.cell, I.free, I.freeC, fun p hp => I.pin p (List.mem_append_left _ hp), I.hok, I.len⟩
theorem SP.unpinned {D : Ends} {f : Flow} {xe : Value → Shared → Prop} (h : SP ((X.pinned pins).wish xe) ps D f s) : SP X pins D f s := by
  cases f with
  | next => obtain ⟨σ', H', I, q⟩ := h; exact ⟨σ', H', I.unwish.unpin1, q⟩
  | brk => obtain ⟨σ', H', I, q⟩ := h; exact ⟨σ', H', I.unwish.unpin1, q⟩
  | cont => obtain ⟨σ', H', I, q⟩ := h; exact ⟨σ', H', I.unwish.unpin1, q⟩
  | ret u => obtain ⟨v, σ', H', I, r, q⟩ := h; exact ⟨v, σ', H', I.unwish.unpin1, r, q⟩
theorem goes_ok {M : Model} {A : Around} {E : Value → Shared → Prop} {i : Nat} {n : Str} {pos : Pos} {Q : Unit → Shared → Prop} (I : Inv X pins σ H s) (hN : X.N.Nodup) (hi : X.N[i]? = some n) (hk : X.env.scope.names.lookup n = some .local)
    (q : ∀ s', Inv X pins (σ.set i none) H s' → Q () s') : wpAny M A (do bindName X.env n .none; unbindBehindTheSuite X.env n pos) Q E s := by
  obtain ⟨m, hn, hl⟩ := id I.loc
  have hcls : (X.env.scope.kind == .class || (X.env.scope.kind == .module && X.env.locals != X.env.globals)) = false := by rw [I.ok.kind]; rfl
  have cne := I.cne
  have below : ∀ b o, X.s₀.heap.get? b = some o → b ≠ X.env.locals := fun b o z => Nat.ne_of_lt (Nat.lt_of_lt_of_le (Heap.lt_size z) I.ok.above)
  refine wpAny_nameGoes_keeps hk hn hcls fun h' v hn' hs => q _ ?_
  refine ⟨I.ok, I.os, I.bare, ⟨fun b o z n1 n2 n3 => (hs.2 b (below b o z)).trans (I.base.keep b o z n1 n2 n3), fun b o z n1 n2 n3 => ?_, I.base.free, fun b o z n3 => ?_, I.base.tups, I.base.frzs, I.base.tbls⟩, ⟨_, hn', fun j y v' e1 e2 e3 => ?_⟩, fun y c z => ?_, I.free, I.freeC, fun p hp => ?_, fun b ob z => ?_, by simpa using I.len⟩
  · obtain ⟨sl, z1⟩ := I.base.slot b o z n1 n2 n3
    exact ⟨sl, (hs.2 b (below b o z)).trans z1⟩
  · obtain ⟨o', z1⟩ := I.base.there b o z n3
    exact ⟨o', (hs.2 b (below b o z)).trans z1⟩
  · by_cases c : j = i
    · subst c
      rw [List.getElem?_set] at e2
      split at e2
      · split at e2 <;> cases e2
      · exact absurd rfl ‹_›
    · rw [List.getElem?_set_ne (Ne.symm c)] at e2
      obtain ⟨u', r', l⟩ := hl j y v' e1 e2 e3
      refine ⟨u', r', ?_⟩
      rcases l with ⟨k1, k2⟩ | ⟨k1, c2, k2, k3⟩
      · refine .inl ⟨k1, ?_⟩
        have : y ≠ n := fun z => c (nodup_ix hN e1 (z ▸ hi))
        simp [this, k2]
      · exact .inr ⟨k1, c2, k2, k3.sameBut hs (cne y c2 k2)⟩
  · obtain ⟨w', z1⟩ := I.cell y c z
    exact ⟨w', z1.sameBut hs (cne y c z)⟩
  · obtain ⟨z1, z2, z3, z4, z5⟩ := I.pin p hp
    exact ⟨(hs.2 p.1 z3).trans z1, z2, z3, z4, z5⟩
  · refine (I.hok b ob z).stay (fun c v hz q => (hs.2 c ?_).trans q) (fun _ q => q) fun _ _ q => q
    rintro rfl
    have fr := I.free
    rcases hz with hz | hz
    · rw [← hz, fr] at z; cases z
    · rw [fr] at hz; cases hz
abbrev XO (e C : Addr) : HO := .ext fun h => ∃ o, h.get? e = some o ∧ o.cls = .ref C
def tTry (i : Nat) (C : Addr) (tb : XK → TS) (th : TS) : TS := fun D σ H =>
  tb (fun c _ H' => c = .ref C ∧ ∀ (e : Addr) (σ' : St), σ'.length = σ.length → H' e = none →
    th { nx := fun σ2 H2 => D.nx (σ2.set i none) H2, rt := D.rt, bk := fun σ2 H2 => D.bk (σ2.set i none) H2, ct := fun σ2 H2 => D.ct (σ2.set i none) H2 } (σ'.set i (some (.ref e))) (upd H' e (XO e C))) D σ H
theorem Fly.lk {α : Type} {h : Heap} {t : Sem α} {r : α} (x : ∀ M, PySem.W.Looks M h t r) : Fly.Lk h t r := fun z => (x _).at z
end
structure XKit (K : PySem.W.Frag) (C : Addr) : Prop where
  cls : ∃ bmB newId, PySem.W.excIn K C bmB newId = true
  ga : PySem.W.findIn K (.ref C) "__getattribute__" = some (some (.builtin "BaseException.__getattribute__"))
  gt : PySem.W.findIn K (.ref C) "__getattr__" = some none
  cl : PySem.W.findIn K (.ref C) "__class__" = some (some (.builtin "object.__class__"))
  be : PySem.W.subIn K (.ref C) (.type "BaseException") = some true
  ob : PySem.W.subIn K (.ref C) (.type "object") = some true
theorem XKit.look {K : PySem.W.Frag} {C : Addr} (k : XKit K C) {h : Heap} (kin : K.In h) : Fly.Cl h C :=
  ⟨Fly.lk fun M => PySem.W.looks_findIn kin k.ga, Fly.lk fun M => PySem.W.looks_findIn kin k.gt, Fly.lk fun M => PySem.W.looks_findIn kin k.cl, Fly.lk fun M => PySem.W.looks_subIn kin k.be, Fly.lk fun M => PySem.W.looks_subIn kin k.ob⟩
theorem XKit.kit {K : PySem.W.Frag} {C : Addr} (k : XKit K C) (e : Addr) : PySem.W.KitX K (.ref e) (.ref C) (fun h => ∃ o, h.get? e = some o ∧ o.cls = .ref C) where
  ty := fun M h _ ⟨o, h1, h2⟩ => h2 ▸ (PySem.W.Looks.ld h1).andThen .now
  it := fun M h kin _ => by
    obtain ⟨bmB, nw, z⟩ := k.cls
    obtain ⟨bm, ns, nm, qn, bs, hdct, sn, sub, ab, col, dd, k0, k1, k2, k3, k5, mN, o1, _⟩ := exc_obj kin z
    intro A' Q' E' s' kp q
    unfold isType loadHead
    exact wpAny_bind (wpAny_loadPart (kp _ _ o1) (wpAny_pure q))
  ne := fun h tp dd its n sl kin at1 => by
    obtain ⟨bmB, nw, z⟩ := k.cls
    obtain ⟨bm, ns, nm, qn, bs, hdct, sn, sub, ab, col, dd, k0, k1, k2, k3, k5, mN, o1, _⟩ := exc_obj kin z
    refine Bool.eq_false_iff.mpr fun q => ?_
    have e1 : C = tp := Value.ref.inj (beq_iff_eq.mp q)
    subst e1
    have z1 := congrArg Obj.data (Option.some.inj (o1.symm.trans at1))
    cases z1
  ca := fun {prog w A E Q s} kin ⟨o, h1, h2⟩ q => by
    obtain ⟨hh, g, d, t, os⟩ := s
    exact Fly.cls_attr (k.look kin) h1 h2 q
def rIsX (K : PySem.W.Frag) (C : Addr) : List V → Hp → VK → Prop := fun xs H Q => ∃ (e : Addr) (y : V) (b : Bool), xs = [.ref e, y] ∧ H e = some (XO e C) ∧
  ((∃ T : String, y = .ty T ∧ PySem.W.kitOne K (.ref C) (.type T) = some b) ∨ (∃ D : Addr, y = .ref D ∧ PySem.W.kitOne K (.ref C) (.ref D) = some b) ∨
    ∃ (tp : Addr) (Ds : List Addr), y = .ref tp ∧ H tp = some (.tup (Ds.map V.ref)) ∧ PySem.W.kitAny K (.ref C) (Ds.map Value.ref) = some b) ∧ Q (.bl b) H
theorem vals_refs : ∀ {Ds : List Addr} {us : List Value}, Vals (Ds.map V.ref) us → us = Ds.map Value.ref
  | [], _, .nil => rfl
  | D :: Ds, _, .cons r t => by
    cases (show _ = Value.ref D from r)
    rw [vals_refs t]
    rfl
theorem call_isX {X : Cx} {K : PySem.W.Frag} {C : Addr} (hK : X.K = K) (k : XKit K C) : CallR X (.builtin "isinstance") (rIsX K C) := by
  subst hK
  intro pins s σ H xs us Q I r h
  obtain ⟨e, y, b, rfl, he, hy, q⟩ := h
  obtain ⟨u, w', rfl, rx, ry⟩ := vals2 r
  cases (show u = Value.ref e from rx)
  have p : ∃ o, s.heap.get? e = some o ∧ o.cls = .ref C := (show ObjOk X.prog X.w H s.heap e (XO e C) from I.hok e _ he).1
  rcases hy with ⟨T, rfl, z⟩ | ⟨D, rfl, z⟩ | ⟨tp, Ds, rfl, ht, z⟩
  · cases (show w' = Value.type T from ry)
    exact PySem.W.kia_one (k.kit e) I.kIn p z (fun z => nomatch z) fun tk => ⟨.bl b, H, I.tok _, rfl, q⟩
  · cases (show w' = Value.ref D from ry)
    exact PySem.W.kia_one (k.kit e) I.kIn p z (fun z => nomatch z) fun tk => ⟨.bl b, H, I.tok _, rfl, q⟩
  · cases (show w' = Value.ref tp from ry)
    obtain ⟨_, its, rv, o, h1, h2, n, h3⟩ := (show ObjOk X.prog X.w H s.heap tp (.tup (Ds.map V.ref)) from I.hok tp _ ht)
    have hi := vals_refs rv
    subst hi
    obtain ⟨c, dd, dt, sl⟩ := o
    cases (show c = _ from h2)
    cases (show dt = _ from h3)
    exact PySem.W.kia_tup (k.kit e) I.kIn p h1 z (fun z => nomatch z) fun tk => ⟨.bl b, H, I.tok _, rfl, q⟩
structure CalX (P : Program) (w : World) (K : PySem.W.Frag) (mg : Str → Option Value) (base : Heap) (x : Str) (k : Nat) (ps : List Str) (sp : Sp) (f : Addr) (fd : FuncData) : Prop where
  ok : FnOk P w K mg base (CX1 P w) k f fd ps sp
  mg : mg x = some (.ref f)
  kp : PySem.W.keepIn K (.ref f) = true
  bd : Binds K fd ps []
theorem pe_calX {X : Cx} {x : Str} {p pos : Pos} {e : Expr} {es : List Expr} {t : TA} {k j : Nat} {ps : List Str} {sp : Sp} {f : Addr} {fd : FuncData} {E : XK} (C : CalX X.prog X.w X.K X.mg X.base x k ps sp f fd) (hr : Room j X.A) (hj : k ≤ j) (hg : Gl X x)
    (hp : Passes (CX1 X.prog X.w) X E) (ha : PA X (e :: es) t) (hdb : (x == ("__debug__" : Str)) = false := by decide)
    (he : starEach (e :: es) X.env = (false, eval e X.env) :: starEach es X.env := by rfl) (hpl : (backTo pos (starEach es X.env)).any (·.1) = false := by rfl) :
    PE X (.Call (.Name x p) (e :: es) [] pos) (tCall sp [] E t) := pe_call C.ok (hr.mono hj) hg C.mg C.kp C.bd .nil hp ha hdb he hpl
theorem Fun.okX {P : Program} {w : World} {K : PySem.W.Frag} {mg : Str → Option Value} {base : Heap} {CX : CXT} {x qual : Str} {st : Stmt} {f : Addr} {fd : FuncData} {N ps : List Str} {k : Nat} {sp : Sp} (F : Fun K x qual st f fd) (S : FnScope N ps (defScope st))
    (len : ∀ vs H Q E, sp vs H Q E → vs.length = ps.length)
    (hbody : ∀ (cdv : Value) (A : Around) (outer : List Env) (s : Shared) (H : Hp) (vs : List V) (Q : VK) (E : XK), Room k (A.deeper (envOfC qual (defScope st) s.heap.objs.size f cdv)) → sp vs H Q E →
      ∃ t, PSs (cxOf CX P w K mg base N qual (defScope st) f cdv A outer s H E) (defBody st) t ∧ t { nx := fun _ H' => Q .non H', rt := Q } (start N vs) H) : FnOk P w K mg base CX (k + 1) f fd ps sp := by
  obtain ⟨oc, od, kV, doc, pm, an, cdv, ct, osl, rfl, lk, hcd⟩ := F.ex
  exact fn_of lk hcd S len fun A outer s H vs Q E hr hsp => hbody cdv A outer s H vs Q E hr hsp
def sp2x (r : V → V → Hp → VK → XK → Prop) : Sp := fun vs H Q E => ∃ x y, vs = [x, y] ∧ r x y H Q E
section
variable {K : PySem.W.Frag} {C D : Addr} {b : Bool} {T : String} {cd : ClassData}
theorem kit_self : PySem.W.kitOne K (.ref C) (.ref C) = some true := by
  unfold PySem.W.kitOne
  rw [if_pos (by simp)]
theorem kit_type (m : PySem.W.kitMeta T = true) (e : PySem.W.subIn K (.ref C) (.type T) = some b) : PySem.W.kitOne K (.ref C) (.type T) = some b := by
  unfold PySem.W.kitOne
  rw [if_neg (fun z => by cases beq_iff_eq.mp z)]
  show (if PySem.W.kitMeta T = true then PySem.W.subIn K (.ref C) (.type T) else none) = some b
  rw [if_pos m, e]
theorem kit_ref (q : PySem.W.clsIn K D = some cd) (t : PySem.W.typeIn K (.ref D) = some (.type "type")) (n : (C == D) = false) (e : PySem.W.subIn K (.ref C) (.ref D) = some b) : PySem.W.kitOne K (.ref C) (.ref D) = some b := by
  unfold PySem.W.kitOne
  rw [if_neg (fun z => by have z := Value.ref.inj (beq_iff_eq.mp z); rw [z] at n; simp at n)]
  show (if ((PySem.W.clsIn K D).isSome && PySem.W.typeIn K (.ref D) == some (.type "type")) = true then PySem.W.subIn K (.ref C) (.ref D) else none) = some b
  rw [if_pos (by rw [q, t]; rfl), e]
theorem kit_no {c : Value} {r : List Value} (h : PySem.W.kitOne K (.ref C) c = some false) (h2 : PySem.W.kitAny K (.ref C) r = some b) : PySem.W.kitAny K (.ref C) (c :: r) = some b := by
  unfold PySem.W.kitAny
  rw [h]
  exact h2
end
section
variable {D : Ends} {σ : St} {H : Hp} {u : TS}
theorem tSeq_ifx {c : TT} {C : Addr} {E : XK} {te : TE} : tSeq (tIfS c (tRaise C E te) tNext) u D σ H ↔ c σ H fun b H1 => if b = true then te σ H1 (fun _ H2 => E (.ref C) none H2) else u D σ H1 := Iff.rfl
theorem tSeq_try {i : Nat} {C : Addr} {tb : XK → TS} {th : TS} : tSeq (tTry i C tb th) u D σ H ↔ tb (fun c _ H' => c = .ref C ∧ ∀ (e : Addr) (σ' : St), σ'.length = σ.length → H' e = none →
    th { nx := fun σ2 H2 => u D (σ2.set i none) H2, rt := D.rt, bk := fun σ2 H2 => D.bk (σ2.set i none) H2, ct := fun σ2 H2 => D.ct (σ2.set i none) H2 } (σ'.set i (some (.ref e))) (upd H' e (XO e C))) { D with nx := u D } σ H := Iff.rfl
end
end L2
namespace L2
open PySem PySem.Spec PyProof.Rows
section
variable {X : Cx} {pins : List (Addr × Obj)} {σ : St} {H H' : Hp} {s s' : Shared}
structure Nw (X : Cx) (pins : List (Addr × Obj)) (H : Hp) (b : Addr) : Prop where
  old : X.s₀.heap.get? b = none ∨ b ∈ X.ex
  loc : b ≠ X.env.locals
  cel : ∀ x c, X.env.cells.lookup x = some c → c ≠ b
  pin : ∀ p ∈ X.pn ++ pins, p.1 ≠ b
  frm : b ∉ frs X.stack
  non : H b = none
theorem Inv.nw (I : Inv X pins σ H s) {b : Addr} (e : s.heap.get? b = none) (n : H' b = none) : Nw X pins H' b := by
  refine ⟨?_, fun z => ?_, fun x c q z => ?_, fun p hp z => ?_, fun z => ?_, n⟩
  · by_cases c : b ∈ X.ex
    · exact .inr c
    · cases q : X.s₀.heap.get? b with
      | none => exact .inl rfl
      | some o =>
        obtain ⟨o', q'⟩ := I.base.there b o q c
        rw [e] at q'
        cases q'
  · obtain ⟨m, ⟨o, _, _, ho, _⟩, _⟩ := I.loc
    rw [← z, e] at ho
    cases ho
  · obtain ⟨v, o, ho, _⟩ := I.cell x c q
    rw [z, e] at ho
    cases ho
  · have := (I.pin p hp).1
    rw [z, e] at this
    cases this
  · obtain ⟨_, o, ho, _⟩ := I.stack.mem z
    rw [e] at ho
    cases ho
theorem Inv.flown {ch : List Addr} {h' : Heap} {t' : Nat} (I : Inv X pins σ H s) (l : Fly.Left (frs X.stack) ch s.heap h') (hc : ∀ b ∈ ch, Nw X pins H b) : Inv X pins σ H { s with heap := h', toks := t' } := by
  have any : ∀ b o, s.heap.get? b = some o → b ∉ ch → ∃ sl, h'.get? b = some { o with slots := sl } := fun b o q n => by
    by_cases c : b ∈ frs X.stack
    · exact l.slot b o q c n
    · exact ⟨o.slots, l.keep b o q c n⟩
  have nc : ∀ b o, X.s₀.heap.get? b = some o → b ∉ X.ex → b ∉ ch := fun b o q n z => by
    rcases (hc b z).old with w | w
    · rw [q] at w; cases w
    · exact n w
  have nl : X.env.locals ∉ ch := fun z => (hc _ z).loc rfl
  obtain ⟨m, hn, hl⟩ := id I.loc
  have hn' : h'.Ns X.env.locals m := by
    obtain ⟨o, es, ep, ho, hd, r⟩ := hn
    obtain ⟨sl, q⟩ := any _ o ho nl
    exact ⟨_, es, ep, q, hd, r⟩
  have cell' : ∀ {c : Addr} {v : Option Value} {x : Str}, X.env.cells.lookup x = some c → s.heap.IsCell c v → h'.IsCell c v := fun {c v x} q z => by
    obtain ⟨o, ho, hd⟩ := z
    obtain ⟨sl, q'⟩ := any c o ho fun w => (hc c w).cel x c q rfl
    exact ⟨_, q', hd⟩
  refine ⟨I.ok, I.os, I.bare, ⟨fun b o q n1 n2 n3 => ?_, fun b o q n1 n2 n3 => ?_, I.base.free, fun b o q n3 => ?_, I.base.tups, I.base.frzs, I.base.tbls⟩, ⟨m, hn', fun i x v e1 e2 e3 => ?_⟩, fun x c q => ?_, I.free, I.freeC, fun p hp => ?_, I.hok.left l I.stkFree fun b z => (hc b z).non, I.len⟩
  · refine l.keep b o (I.base.keep b o q n1 n2 n3) (fun z => ?_) (nc b o q n3)
    rcases List.mem_cons.mp (I.stkSub b z) with w | w
    · have l1 := Heap.lt_size q
      rw [w] at l1
      exact absurd l1 (Nat.not_lt.mpr I.ok.above)
    · exact n2 w
  · obtain ⟨sl, q1⟩ := I.base.slot b o q n1 n2 n3
    obtain ⟨sl2, q2⟩ := any b _ q1 (nc b o q n3)
    exact ⟨sl2, q2⟩
  · obtain ⟨o', q1⟩ := I.base.there b o q n3
    obtain ⟨sl2, q2⟩ := any b _ q1 (nc b o q n3)
    exact ⟨_, q2⟩
  · obtain ⟨u, r, lk⟩ := hl i x v e1 e2 e3
    refine ⟨u, r, ?_⟩
    rcases lk with z | ⟨k1, c, k2, k3⟩
    · exact .inl z
    · exact .inr ⟨k1, c, k2, cell' k2 k3⟩
  · obtain ⟨v, z⟩ := I.cell x c q
    exact ⟨v, cell' q z⟩
  · obtain ⟨z1, z2, z3, z4, z5⟩ := I.pin p hp
    refine ⟨l.keep _ _ z1 (fun w => ?_) fun w => (hc _ w).pin p hp rfl, z2, z3, z4, z5⟩
    rcases List.mem_cons.mp (I.stkSub _ w) with q | q
    · exact z3 q
    · exact z4 q
theorem Inv.told {e : Addr} {o : HO} (I : Inv X pins σ H s) (n : Nw X pins H e) (ok : ObjOk X.prog X.w (upd H e o) s.heap e o) : Inv X pins σ (upd H e o) s := by
  have ne : ∀ b u, H b = some u → b ≠ e := fun b u q z => by rw [z, n.non] at q; cases q
  refine ⟨I.ok, I.os, I.bare, ⟨I.base.keep, I.base.slot, fun b u q n1 n3 => ?_, I.base.there, fun b xs q => ?_, fun b u v q => ?_, fun b ps q => ?_⟩, I.loc, I.cell, by rw [upd_ne (Ne.symm n.loc)]; exact I.free, fun x c q => by rw [upd_ne (n.cel x c q)]; exact I.freeC x c q, fun p hp => ?_, fun b u q => ?_, I.len⟩
  · have : b ≠ e := fun z => by
      rcases n.old with w | w
      · rw [← z, q] at w; cases w
      · exact n3 (z ▸ w)
    rw [upd_ne this]
    exact I.base.free b u q n1 n3
  · have z := I.base.tups b xs q
    rw [upd_ne (ne b _ z)]
    exact z
  · have z := I.base.frzs b u v q
    rw [upd_ne (ne b _ z)]
    exact z
  · obtain ⟨more, z⟩ := I.base.tbls b ps q
    exact ⟨more, by rw [upd_ne (ne b _ z)]; exact z⟩
  · obtain ⟨z1, z2, z3⟩ := I.pin p hp
    exact ⟨z1, by rw [upd_ne (n.pin p hp)]; exact z2, z3⟩
  · by_cases c : b = e
    · subst c
      rw [upd_same] at q
      cases q
      exact ok
    · rw [upd_ne c] at q
      refine (I.hok b u q).stay (fun _ _ _ q => q) (fun c2 q2 => ?_) fun c2 xs q2 => ?_
      · rw [upd_ne (ne c2 _ q2)]; exact q2
      · rw [upd_ne (ne c2 _ q2)]; exact q2
def Thr (X : Cx) (E : XK) (x : Value) (s' : Shared) : Prop := ∃ (p1 : List (Addr × Obj)) (σ1 : St) (H' : Hp) (e T C : Addr) (fl : Value), x = .ref e ∧ Inv X p1 σ1 H' s' ∧ Nw X p1 H' e ∧ Nw X p1 H' T ∧ Fly.At s'.heap e T (.ref C) fl ∧ E (.ref C) none H'
def Takes (X : Cx) (E : XK) : Prop := ∀ x s', Thr X E x s' → X.xe x s'
theorem Takes.passes {E : XK} (t : Takes X E) : Passes (CX1 X.prog X.w) X E := fun pins σ H s x s' I ⟨e, T, C, H', ex, os, bare, U, hok, n1, n2, n3, n4, a, q⟩ =>
  t x s' ⟨pins, σ, H', e, T, C, .none, ex, I.call' os U hok bare (ch := []) (fun b z => absurd z (by simp)), I.nw n1 n3, I.nw n2 n4, a, q⟩
theorem takes_cx {P : Program} {w : World} {K : PySem.W.Frag} {mg : Str → Option Value} {base : Heap} {N : List Str} {qual : Str} {scope : Scope} {f : Addr} {cd : Value} {A : Around} {outer : List Env} {s0 : Shared} {H0 : Hp} {E : XK} :
    Takes (cxOf (CX1 P w) P w K mg base N qual scope f cd A outer s0 H0 E) E := by
  rintro x s' ⟨p1, σ1, H', e, T, C, fl, rfl, J, ne, nT, a, q⟩
  have old : ∀ b, Nw (cxOf (CX1 P w) P w K mg base N qual scope f cd A outer s0 H0 E) p1 H' b → s0.heap.get? b = none := fun b z => by
    rcases z.old with w | w
    · exact w
    · exact absurd (show b ∈ [] from w) (by simp)
  show wpAny _ _ (leaving _ _) _ _ s'
  unfold leaving
  refine wpAny_bind (Fly.notedA (base := base) J.ok.frames J.stack rfl a fun h2 T2 n2 l2 a2 => ?_)
  refine Fly.lands (s := { s' with heap := h2 }) a2 fun h3 l3 a3 => ?_
  have nT2 : Nw (cxOf (CX1 P w) P w K mg base N qual scope f cd A outer s0 H0 E) p1 H' T2 := by
    rcases n2 with z | z
    · rw [z]; exact nT
    · exact J.nw z (J.hok.none_of z)
  have cc : ∀ b ∈ [e, T, T2], Nw (cxOf (CX1 P w) P w K mg base N qual scope f cd A outer s0 H0 E) p1 H' b := fun b z => by
    simp only [List.mem_cons, List.not_mem_nil, or_false] at z
    rcases z with rfl | rfl | rfl
    · exact ne
    · exact nT
    · exact nT2
  have l23 : Fly.Left (frs (cxOf (CX1 P w) P w K mg base N qual scope f cd A outer s0 H0 E).stack) [e, T, T2] s'.heap h3 := (l2.mono (fun _ z => z) (fun b z => by simp at z ⊢; rcases z with z | z <;> simp [z])).trans (l3.mono (fun _ z => absurd z (by simp)) (fun b z => by simp at z ⊢; simp [z]))
  have J3 := J.flown (t' := s'.toks) l23 cc
  exact ⟨e, T2, C, H', rfl, J3.os, J3.bare, J3.base, J3.hok, old e ne, old T2 nT2, ne.non, nT2.non, a3, q⟩
end
section
variable {X : Cx}
theorem ps_tryX {i : Nat} {n x : Str} {body suite : List Stmt} {b0 : Stmt} {B C : Addr} {tb : XK → TS} {th : TS} {np hp pos : Pos} {bmB : List Value} {newId : String}
    (hN : X.N.Nodup) (hi : X.N[i]? = some n) (hl : X.env.scope.names.lookup n = some .local) (st : X.stack = X.env :: X.outer) (hf : X.env.frame = some X.env.locals)
    (hg : Gl X x) (hm : X.mg x = some (.ref B)) (xB : PySem.W.excIn X.K B bmB newId = true) (be : PySem.W.subIn X.K (.ref B) (.type "BaseException") = some true) (su : PySem.W.subIn X.K (.ref C) (.ref B) = some true)
    (hb : ∀ (pins : List (Addr × Obj)) (xe : Value → Shared → Prop) (E : XK), Takes ((X.pinned pins).wish xe) E → PSs ((X.pinned pins).wish xe) body (tb E))
    (hs : ∀ (pins : List (Addr × Obj)) (e : Addr), PSs (X.within pins e) (b0 :: suite) th) (hdb : (x == ("__debug__" : Str)) = false := by decide) :
    PS X (.Try body [.ExceptHandler (some (.Name x np)) (some n) (b0 :: suite) hp] [] [] pos) (tTry i C tb th) := by
  intro pins s σ H D I h
  refine wpAny_Try_except ?_
  let E1 : XK := fun c _ H' => c = .ref C ∧ ∀ (e : Addr) (σ' : St), σ'.length = σ.length → H' e = none →
    th { nx := fun σ2 H2 => D.nx (σ2.set i none) H2, rt := D.rt, bk := fun σ2 H2 => D.bk (σ2.set i none) H2, ct := fun σ2 H2 => D.ct (σ2.set i none) H2 } (σ'.set i (some (.ref e))) (upd H' e (XO e C))
  let xe1 : Value → Shared → Prop := Thr (X.pinned pins) E1
  have hp1 : Takes ((X.pinned pins).wish xe1) E1 := fun x s' ⟨p1, σ1, H', e, T, C', fl, ex, J, n1, n2, a, q⟩ => ⟨p1, σ1, H', e, T, C', fl, ex, J.unwish, ⟨n1.old, n1.loc, n1.cel, n1.pin, n1.frm, n1.non⟩, ⟨n2.old, n2.loc, n2.cel, n2.pin, n2.frm, n2.non⟩, a, q⟩
  refine wpAny_mono (hb pins xe1 E1 hp1 [] s σ H D (I.pin1.wish _) h) (fun f s1 q => ?_) fun x s1 q => ?_
  · have q' := SP.unpinned q
    cases f with
    | next => exact wpAny_execs_nil q'
    | brk => exact q'
    | cont => exact q'
    | ret u => exact q'
  · obtain ⟨p1, σ1, H', e, T, C', fl, rfl, J, ne, nT, a, ec, qh⟩ := q
    cases ec
    refine Fly.notedA (base := X.base) (L := X.env.locals) (show X.A.frames = _ from st ▸ I.ok.frames) (show s1.heap.FunFrames X.base (X.env :: X.outer) from st ▸ J.stack) hf a fun h2 T2 n2 l2 a2 => ?_
    refine Fly.lands (s := { s1 with heap := h2 }) a2 fun h3 l3 a3 => ?_
    have nT2 : Nw (X.pinned pins) p1 H' T2 := by
      rcases n2 with z | z
      · rw [z]; exact nT
      · exact J.nw z (J.hok.none_of z)
    have cc : ∀ b ∈ [e, T, T2], Nw (X.pinned pins) p1 H' b := fun b z => by
      simp only [List.mem_cons, List.not_mem_nil, or_false] at z
      rcases z with rfl | rfl | rfl
      · exact ne
      · exact nT
      · exact nT2
    have l2 : Fly.Left (frs X.stack) [e, T, T2] s1.heap h2 := by
      rw [st]
      exact l2.mono (fun _ z => z) fun b z => by simp at z ⊢; rcases z with z | z <;> simp [z]
    have l3 : Fly.Left (frs X.stack) [e, T, T2] h2 h3 := l3.mono (fun _ z => absurd z (by simp)) fun b z => by simp at z ⊢; simp [z]
    have l23 := l2.trans l3
    have J3 : Inv (X.within pins e) [] σ1 H' { s1 with heap := h3 } := (J.flown (t' := s1.toks) l23 cc).within
    refine wpAny_handleBy_cons (codeAny_handlers_test (ld_glob J3 (x := x) hg hm ?_ hdb)) (by intro z; cases z)
    have kin := J3.kIn
    obtain ⟨bm, ns, nm, qn, bs, hdct, sn, sub, ab, col, dd, k0, k1, k2, k3, k5, mN, o1, _⟩ := exc_obj kin xB
    obtain ⟨neT, oe, vs, oT, ts, he, hc, _⟩ := id a3
    refine Fly.matches_own (C := C) (b := true) he hc o1 (Fly.lk fun M => PySem.W.looks_subIn kin be) (Fly.lk fun M => PySem.W.looks_subIn kin su) ?_
    refine codeAny_handlers_suite_as (Fly.lands (s := { s1 with heap := h3 }) a3 fun h4 l4 a4 => ?_)
    have l4 : Fly.Left (frs X.stack) [e, T, T2] s1.heap h4 := l23.trans (l4.mono (fun _ z => absurd z (by simp)) fun b z => by simp at z ⊢; simp [z])
    obtain ⟨_, oe4, _, _, _, he4, hc4, _⟩ := id a4
    have J4 : Inv (X.pinned pins) p1 σ1 H' { s1 with heap := h4 } := J.flown (t' := s1.toks) l4 cc
    have J5 := J4.told (o := XO e C) ne ⟨⟨oe4, he4, hc4⟩, ⟨oe4, he4⟩, fun g1 g2 ⟨o, z1, z2⟩ k => ⟨o, k o z1, z2⟩⟩
    refine store_ok (X := X.within pins e) (v := .ref e) (i := i) (x := n) J5.within hN hi (.inl hl) rfl (fun s6 I6 => ?_) (.inr hl)
    refine wpAny_mono (hs pins e [] s6 _ _ _ I6 (qh e σ1 (J.len.trans I.len.symm) ne.non)) (fun f s7 q7 => ?_) fun _ _ z => z.elim
    cases f with
    | next => obtain ⟨σ7, H7, I7, d⟩ := q7; exact goes_ok (I7.outside I.ok) hN hi hl fun s8 I8 => ⟨_, _, I8, d⟩
    | brk => obtain ⟨σ7, H7, I7, d⟩ := q7; exact goes_ok (I7.outside I.ok) hN hi hl fun s8 I8 => ⟨_, _, I8, d⟩
    | cont => obtain ⟨σ7, H7, I7, d⟩ := q7; exact goes_ok (I7.outside I.ok) hN hi hl fun s8 I8 => ⟨_, _, I8, d⟩
    | ret u => obtain ⟨v, σ7, H7, I7, r, d⟩ := q7; exact goes_ok (I7.outside I.ok) hN hi hl fun s8 I8 => ⟨v, _, _, I8, r, d⟩
def tTryN (C : Addr) (tb : XK → TS) (th : TS) : TS := fun D σ H => tb (fun c _ H' => c = .ref C ∧ ∀ σ' : St, σ'.length = σ.length → th D σ' H') D σ H
theorem tSeq_tryN {D : Ends} {σ : St} {H : Hp} {u : TS} {C : Addr} {tb : XK → TS} {th : TS} : tSeq (tTryN C tb th) u D σ H ↔ tb (fun c _ H' => c = .ref C ∧ ∀ σ' : St, σ'.length = σ.length → th { D with nx := u D } σ' H') { D with nx := u D } σ H := Iff.rfl
end
end L2
namespace L2
open PySem PySem.Spec PyProof.Rows
section
variable {prog : Program} {w : World} {A : Around} {R : Result → Shared → Prop} {s : Shared}
theorem compLoop_anyE {elt target iter : Expr} {ifs : List Expr} {scope : Scope} {pos : Pos} {it acc : Value} {env : Env} (I : Nat → Shared → Prop)
    (turn : ∀ n s, I n s → wpAny (model prog w) A (pyNext it) (fun r s₁ => match r with
      | none => R (.ok .next) s₁
      | some v => wpAny (model prog w) A (letOwnedTupleGo target it v) (fun _ s₁' => wpAny (model prog w) A (assign target env v) (fun _ s₂ =>
          wpAny (model prog w) A (forIn ifs true fun c r => if r = true then do let ok ← isTrue c env (eval c env); pure (ForInStep.yield ok) else pure (ForInStep.yield r)) (fun ok s₃ =>
            if ok = true then wpAny (model prog w) A (eval elt env) (fun x s₄ =>
              wpAny (model prog w) A (call (.builtin "list.append") [acc, x]) (fun _ s₅ => ∃ m, m < n ∧ I m s₅) (fun _ _ => False) s₄) (notedBy (model prog w) A env fun e s' => R (.error e) s') s₃
            else ∃ m, m < n ∧ I m s₃) (fun _ _ => False) s₂) (fun _ _ => False) s₁') (fun _ _ => False) s₁) (fun _ _ => False) s)
    (n : Nat) (h : I n s) : codeAny (model prog w) A (.compLoop (.ListComp elt [⟨target, iter, ifs, 0⟩] scope pos) 0 it acc env) R s := by
  refine codeAny_loop rfl I (fun n s hI => ?_) n h
  show wpAny _ A ((compTurn (.ListComp elt [⟨target, iter, ifs, 0⟩] scope pos) 0 it acc env).onRaise (fun x => do noteFrame x env; theTreesLotGoes x)) _ _ s
  refine wpAny_noted ?_
  rw [compTurn_list]
  refine wpAny_bind (wpAny_standAt (wpAny_bind (wpAny_mono (turn n s hI) (fun r s₁ h₁ => ?_) fun _ _ h' => h'.elim)))
  cases r with
  | none => exact wpAny_pure h₁
  | some v =>
    refine wpAny_bind (wpAny_mono h₁ (fun _ s₁' h₁' => ?_) fun _ _ h' => h'.elim)
    refine wpAny_bind (wpAny_mono h₁' (fun _ s₂ h₂ => wpAny_bind (wpAny_mono h₂ (fun ok s₃ h₃ => ?_) fun _ _ h' => h'.elim)) fun _ _ h' => h'.elim)
    cases ok with
    | false => exact wpAny_pure ⟨rfl, h₃⟩
    | true =>
      exact wpAny_bind (wpAny_bind (wpAny_mono h₃ (fun x s₄ h₄ => wpAny_bind (wpAny_mono h₄ (fun _ s₅ h₅ => wpAny_pure (wpAny_pure ⟨rfl, h₅⟩)) fun _ _ h' => h'.elim)) fun _ _ h' => h'))
end
section
variable {X : Cx} {tg iter elt : Expr} {ifs : List Expr} {scope : Scope} {pos : Pos} {N : List Str} {nt : Nat} {caps : List Nat} {wi : TI} {g : TG} {tt : TT} {te : TE} {cl : List (Str × Addr)}
theorem comp_err {E0 : XK} {pins ps : List (Addr × Obj)} {σ : St} {H : Hp} {s s8 : Shared} {fp : List Addr} {C : Addr} {x : Value} {RE : Value → Shared → Prop} (tk : Takes X E0) (stk : X.stack = X.env :: X.outer) (hfr : X.env.frame = some X.env.locals) (hC : s.heap.objs.size < C)
    (I : Inv X pins σ H s) (hf : ∀ b ∈ fp, FpOk X pins H b) (fpin : ∀ b ∈ fp, ∃ o, (b, o) ∈ ps) (th : Thr ((blk X N scope cl C s H fp).pinned ps) E0 x s8)
    (hRE : ∀ s', (∃ m, s'.heap.Ns C m ∧ ∀ h', Heap.SameBut C s'.heap h' → ∀ cenv : Env, cenv.locals = C → wpAny (model X.prog X.w) X.A (passOn "comprehension.variables-let-go" x cenv : Sem Value) (fun _ _ => False) X.xe { s' with heap := h' }) → RE x s') :
    notedBy (model X.prog X.w) X.A (compEnvC scope cl C X.env) RE x s8 := by
  obtain ⟨p1, σ1, H', e, T, C', fl, rfl, J, ne, nT, a, q⟩ := th
  show wpAny _ _ (noteFrame _ _) _ _ _
  rw [Fly.note_env (env := X.env) (env' := compEnvC scope cl C X.env) rfl]
  refine Fly.notedA (base := X.base) (L := X.env.locals) (show X.A.frames = _ from stk ▸ I.ok.frames) (show s8.heap.FunFrames X.base (X.env :: X.outer) from stk ▸ J.stack) hfr a fun h2 T2 n2 l2 a2 => hRE _ ?_
  have nT2 : Nw ((blk X N scope cl C s H fp).pinned ps) p1 H' T2 := by
    rcases n2 with z | z
    · rw [z]; exact nT
    · exact J.nw z (J.hok.none_of z)
  have cc : ∀ b ∈ [e, T, T2], Nw ((blk X N scope cl C s H fp).pinned ps) p1 H' b := fun b z => by
    simp only [List.mem_cons, List.not_mem_nil, or_false] at z
    rcases z with rfl | rfl | rfl
    · exact ne
    · exact nT
    · exact nT2
  have l2 : Fly.Left (frs X.stack) [e, T, T2] s8.heap h2 := by
    rw [stk]
    exact l2.mono (fun _ z => z) fun b z => by simp at z ⊢; rcases z with z | z <;> simp [z]
  have J2 := J.flown (t' := s8.toks) l2 cc
  have fresh : ∀ b, Nw ((blk X N scope cl C s H fp).pinned ps) p1 H' b → s.heap.get? b = none := fun b z => by
    rcases z.old with w | w
    · exact w
    · obtain ⟨o, ho⟩ := fpin b w
      exact absurd rfl (z.pin (b, o) (List.mem_append_left _ (List.mem_append_right _ ho)))
  obtain ⟨m, hn, _⟩ := J2.loc
  refine ⟨m, hn, fun h' sb cenv _ => ?_⟩
  have ek : ∀ b, b ≠ C → h'.get? b = h2.get? b := fun b hb => sb.2 b hb
  have a3 : Fly.At h' e T2 (.ref C') (rawInt X.env.locals) := by
    obtain ⟨z0, oe, vs, oT, ts, z1, z2, z3, z4, z5, z6⟩ := a2
    exact ⟨z0, oe, vs, oT, ts, (ek e ne.loc).trans z1, z2, z3, z4, (ek T2 nT2.loc).trans z5, z6⟩
  refine Fly.passes (s := { s8 with heap := h' }) a3 fun h3 fl3 l3 a4 => tk _ _ ?_
  have IY := J2.unpin1
  have hCn : H' C = none := IY.free
  have hok : HOk X.prog X.w H' h' := fun b u q => by
    have nC : ∀ c u', H' c = some u' → c ≠ C := fun c u' q' z => by rw [z, hCn] at q'; cases q'
    refine (IY.hok b u q).stay (fun c w' hc q' => (ek c ?_).trans q') (fun _ q' => q') fun _ _ q' => q'
    rcases hc with z | z
    · rw [z]; exact nC b u q
    · exact nC c _ z
  have lt : ∀ b o, s.heap.get? b = some o → b ≠ C := fun b o q => Nat.ne_of_lt (Nat.lt_trans (Heap.lt_size q) hC)
  have u : Un (frs X.stack) fp H H' s.heap h' := ⟨fun b o q nn hb hx => (ek b (lt b o q)).trans (IY.base.keep b o q nn hb hx), fun b o q nn hb hx => by
      obtain ⟨sl, q'⟩ := IY.base.slot b o q nn hb hx
      exact ⟨sl, (ek b (lt b o q)).trans q'⟩, IY.base.free, fun b o q hx => by
      obtain ⟨o', q'⟩ := IY.base.there b o q hx
      exact ⟨o', (ek b (lt b o q)).trans q'⟩, IY.base.tups, IY.base.frzs, IY.base.tbls⟩
  have I1 : Inv X pins σ H' { s8 with heap := h' } := I.call' (s' := { s8 with heap := h' }) (ch := fp) IY.os u hok IY.bare fun b hb => ⟨(hf b hb).2.2.2.1, (hf b hb).2.1, (hf b hb).2.2.2.2.1, (hf b hb).2.2.2.2.2⟩
  have w1 : Nw X pins H' e := I.nw (fresh e ne) ne.non
  have w2 : Nw X pins H' T2 := I.nw (fresh T2 nT2) nT2.non
  exact ⟨pins, σ, H', e, T2, C', fl3, rfl, I1.flown (t' := s8.toks) (l3.mono (fun _ z => absurd z (by simp)) fun _ z => z) fun b z => by rw [List.mem_singleton.mp z]; exact w2, w1, w2, a4, q⟩
theorem comp_runX {E0 : XK} {pins : List (Addr × Obj)} {σ : St} {H : Hp} {s : Shared} {it : Addr} {fp : List Addr} {tn : Nat → Heap → Prop} {J : It} {RR : Value → Addr → Result → Shared → Prop} {E : Value → Shared → Prop}
    (ok : CompOk X N nt caps scope) (hc : X.calm = true) (h1 : ∀ n c, cl.lookup n = some c → X.env.cells.lookup n = some c) (h2 : ∀ n, (n, NameKind.free) ∈ scope.names → ∃ c, cl.lookup n = some c)
    (hg : ∀ cl C s H fp, PG (blk X N scope cl C s H fp) tg g) (hgk : GKeep nt g) (ht : ∀ cl C s H fp, PTs (blk X N scope cl C s H fp) ifs tt) (he : ∀ cl C s H fp ps xe, Takes (((blk X N scope cl C s H fp).pinned ps).wish xe) E0 → PE (((blk X N scope cl C s H fp).pinned ps).wish xe) elt te) (tk : Takes X E0) (stk : X.stack = X.env :: X.outer) (hfr : X.env.frame = some X.env.locals)
    (I : Inv X pins σ H s) (T : Turn X.prog X.w X.K tg J fp it tn) (st : tn 0 s.heap) (hf : ∀ b ∈ fp, FpOk X pins H b)
    (W : Nat → Nat → List V → Hp → Prop) (Z : List V → Hp → Prop) (m0 : Nat) (w0 : W 0 m0 [] H)
    (turn : ∀ i m ys H2, W i m ys H2 → (J.stop i H2 ∧ Z ys H2) ∨
      (J.go i H2 ∧ ys.length < sizeLine ∧ ∀ x H3, J.yld i H2 x H3 → g x (capSt nt caps σ) H3 fun σ4 H4 => tt σ4 H4 fun b H5 =>
        if b = true then te σ4 H5 fun y H6 => ∃ m', m' < m ∧ W (i + 1) m' (ys ++ [y]) H6 else ∃ m', m' < m ∧ W (i + 1) m' ys H5))
    (hRR : ∀ (C : Addr) (s' : Shared) (ys : List V) (its : List Value) (n : Nat) (H' : Hp), s.heap.objs.size < C → Vals ys its → Inv (blk X N scope cl C s H fp) [] (capSt nt caps σ) H' s' →
      s'.heap.get? s.heap.objs.size = some { cls := .type "list", data := .seq its.toArray n } → H' s.heap.objs.size = none → Z ys H' → RR (.ref s.heap.objs.size) C (.ok .next) s')
    (hRE : ∀ (C : Addr) (x : Value) (s' : Shared), (∃ m, s'.heap.Ns C m ∧ ∀ h', Heap.SameBut C s'.heap h' → ∀ cenv : Env, cenv.locals = C → wpAny (model X.prog X.w) X.A (passOn "comprehension.variables-let-go" x cenv : Sem Value) (fun _ _ => False) X.xe { s' with heap := h' }) → RR (.ref s.heap.objs.size) C (.error x) s') :
    wpAny (model X.prog X.w) X.A (newList []) (fun acc s₃ => wpAny (model X.prog X.w) X.A (newFunctionEnv scope X.env.globals cl [] X.env.qual none .none (some X.env)) (fun cenv s₄ =>
      codeAny (model X.prog X.w) X.A (.compStart (.ListComp elt [⟨tg, iter, ifs, 0⟩] scope pos) 0 (.ref it) acc { cenv with scope := relabel scope X.env }) (RR acc cenv.locals) s₄) E s₃) E s := by
  refine wpAny_newObj_type (wpAny_newFunctionEnv ok.cell (by intro y hy; simp at hy) (fun h₁ hns₁ hsb₁ => ?_) ok.kind)
  dsimp only at hns₁ hsb₁ ⊢
  generalize hG : s.heap.push { cls := .type "list", dict := none, data := .seq ([] : List Value).toArray } = G at hns₁ hsb₁ ⊢
  have hC : G.objs.size = s.heap.objs.size + 1 := by rw [← hG, Heap.size_push]
  have hDC : s.heap.objs.size ≠ G.objs.size := by rw [hC]; exact Nat.ne_of_lt (Nat.lt_succ_self _)
  have hlt : s.heap.objs.size < G.objs.size := by rw [hC]; exact Nat.lt_succ_self _
  have old : ∀ b o, s.heap.get? b = some o → h₁.get? b = some o := fun b o e =>
    hsb₁.extBut b o (Nat.ne_of_lt (Nat.lt_trans (Heap.lt_size e) hlt)) (Heap.get?_push_of_some _ (hG ▸ Heap.get?_push_of_some _ e))
  have hacc : h₁.get? s.heap.objs.size = some { cls := .type "list", data := .seq ([] : List Value).toArray 0 } := hsb₁.extBut _ _ hDC (Heap.get?_push_of_some _ (hG ▸ Heap.get?_push_size _ rfl))
  have fpD : ∀ b ∈ fp, b < s.heap.objs.size := fun b hb => by
    obtain ⟨o, e, _⟩ := T.obj _ _ st b hb
    exact Heap.lt_size e
  have celt : ∀ n c, cl.lookup n = some c → c < s.heap.objs.size := fun n c e => by
    obtain ⟨v, q⟩ := I.cell n c (h1 n c e)
    exact q.lt
  have YOk : (blk X N scope cl G.objs.size s H fp).Ok := by
    refine ⟨I.ok.mod, ok.kind, I.ok.glob, I.ok.blt, Nat.le_of_lt hlt, fun x y c e e' => I.ok.inj x y c (h1 x c e) (h1 y c e'), fun x hx => ?_, fun x c hx _ => (nomatch hx), I.ok.hd, I.ok.frames, .inl rfl,
      fun b hb => ⟨Nat.ne_of_lt (Nat.lt_trans (fpD b hb) hlt), fun x c e z => ?_⟩, fun b o e => I.bs b o e, Nat.le_trans I.ok.bsz I.sz, fun b o e hb => ?_, fun b hb hz => ?_, I.stack, I.stkFree⟩
    · rcases hx with hx | hx
      · exact h2 x (relabel_kind ok.cell hx (.inl rfl))
      · exact h2 x (relabel_kind ok.cell hx (.inr rfl))
    · exact (hf b hb).2.2.2.2.1 x c (h1 x c e) z
    · rcases (hf b hb).2.2.2.1 with z | z
      · exact I.ok.noex b o e z
      · exact absurd (Nat.lt_of_lt_of_le (Heap.lt_size e) (Nat.le_trans I.ok.bsz z)) (Nat.lt_irrefl _)
    · rcases List.mem_cons.mp (I.stkSub b hz) with z | z
      · exact (hf b hb).2.1 z
      · exact (hf b hb).2.2.1 z
  have lenb : (capSt nt caps σ).length = N.length := by rw [ok.len]; simp [capSt]
  have IY : Inv (blk X N scope cl G.objs.size s H fp) [] (capSt nt caps σ) H { s with heap := h₁, toks := s.toks + ([] : List (Str × Value)).length } := by
    refine ⟨YOk, rfl, I.bare, Un.kept old, ⟨_, hns₁, fun i x v e1 e2 e3 => ?_⟩, fun x c e => ?_, I.hok.fresh (Nat.le_of_lt hlt), fun x c e => I.freeC x c (h1 x c e), fun p hp => (nomatch hp), I.hok.kept old, lenb⟩
    · have hi : nt ≤ i := by
        rcases Nat.lt_or_ge i nt with z | z
        · exfalso
          unfold capSt at e2
          rw [List.getElem?_append_left (by simpa using z), List.getElem?_replicate] at e2
          split at e2 <;> cases e2
        · exact z
      unfold capSt at e2
      rw [List.getElem?_append_right (by simpa using hi), List.length_replicate, List.getElem?_map] at e2
      cases ej : caps[i - nt]? with
      | none => rw [ej] at e2; cases e2
      | some j =>
        rw [ej] at e2
        have e2' : (σ[j]?).join = some v := by simpa using e2
        have e2'' : σ[j]? = some (some v) := by
          cases q : σ[j]? with
          | none => rw [q] at e2'; cases e2'
          | some z => rw [q] at e2'; simp at e2'; rw [e2']
        obtain ⟨y, y1, y2, y3, y4⟩ := ok.cap _ _ ej
        have : nt + (i - nt) = i := by omega
        rw [this] at y2
        have e1' : N[i]? = some x := e1
        rw [e1'] at y2
        cases y2
        obtain ⟨m, hn, hl⟩ := I.loc
        have kx := ok.free x y3
        have vx : Vis X.env.scope x := by
          rcases kx with z | z
          · exact .inr (.inl z)
          · exact .inr (.inr z)
        obtain ⟨u, r, l⟩ := hl j x v y1 e2'' vx
        refine ⟨u, r, .inr ⟨?_, ?_⟩⟩
        · rcases e3 with z | z | z
          · exact absurd z (relabel_free y4)
          · exact .inl z
          · exact .inr z
        · obtain ⟨c, hcl⟩ := h2 x y3
          refine ⟨c, hcl, ?_⟩
          rcases l with ⟨k, _⟩ | ⟨_, c', hc', o, ho, hd⟩
          · rcases kx with z | z <;> (rw [z] at k; cases k)
          · have : c = c' := Option.some.inj ((h1 x c hcl).symm.trans hc')
            subst this
            exact ⟨o, old c o ho, hd⟩
    · obtain ⟨v, o, ho, hd⟩ := I.cell x c (h1 x c e)
      exact ⟨v, o, old c o ho, hd⟩
  -- the loop
  have stat : ∀ {pn : List (Addr × Obj)} {H' : Hp}, (∀ b ∈ fp, H' b = none) → (∀ p ∈ pn, s.heap.objs.size ≤ p.1) → ∀ b ∈ fp, FpOk (blk X N scope cl G.objs.size s H fp) pn H' b := fun {pn H'} hn hpn b hb =>
    ⟨hn b hb, Nat.ne_of_lt (Nat.lt_trans (fpD b hb) hlt), fun hz => (YOk.exfs b hb hz).elim, .inl hb, fun x c e z => (hf b hb).2.2.2.2.1 x c (h1 x c e) z, fun p hp z => by
      have hp' : p ∈ pn := by simpa [blk] using hp
      have := hpn p hp'
      rw [z] at this
      exact absurd (Nat.lt_of_lt_of_le (fpD b hb) this) (Nat.lt_irrefl _)⟩
  have hDf : s.heap.objs.size ∉ fp := fun hm => Nat.lt_irrefl _ (fpD _ hm)
  have hDs : s.heap.objs.size ∉ frs X.stack := fun hm => by
    rcases List.mem_cons.mp (I.stkSub _ hm) with z | z
    · exact absurd I.lt (by rw [← z]; exact Nat.lt_irrefl _)
    · exact I.nofs (Nat.le_refl _) z
  have loop : ∀ s₃ : Shared, s₃ = { s with heap := h₁, toks := s.toks + ([] : List (Str × Value)).length } →
      codeAny (model X.prog X.w) X.A (.compLoop (.ListComp elt [⟨tg, iter, ifs, 0⟩] scope pos) 0 (.ref it) (.ref s.heap.objs.size) (compEnvC scope cl G.objs.size X.env)) (RR (.ref s.heap.objs.size) G.objs.size) s₃ := by
    rintro s₃ rfl
    refine compLoop_anyE (fun n s' => ∃ i ys its k H', Inv (blk X N scope cl G.objs.size s H fp) [] (capSt nt caps σ) H' s' ∧ tn i s'.heap ∧ (∀ b ∈ fp, H' b = none) ∧ Vals ys its ∧
      s'.heap.get? s.heap.objs.size = some { cls := .type "list", data := .seq its.toArray k } ∧ H' s.heap.objs.size = none ∧ ys.length ≤ sizeLine ∧ W i n ys H') ?_ m0
      ⟨0, [], [], 0, H, IY, T.keep _ _ _ st fun b hb o e => old b o e, fun b hb => (hf b hb).1, .nil, hacc, I.hok.fresh (Nat.le_refl _), Nat.zero_le _, w0⟩
    rintro n s3 ⟨i, ys, its, k, H3, I3, st3, fr3, v3, a3, n3, z3, w3⟩
    have I3p : Inv (blk X N scope cl G.objs.size s H fp) [(s.heap.objs.size, { cls := .type "list", data := .seq its.toArray k })] (capSt nt caps σ) H3 s3 := I3.pins_of fun p hp => by
      have e : p = (s.heap.objs.size, { cls := .type "list", data := .seq its.toArray k }) := by simpa using hp
      subst e
      exact ⟨a3, n3, hDC, hDs, fun v z => by cases z⟩
    have pn3 : ∀ p ∈ [(s.heap.objs.size, ({ cls := .type "list", data := .seq its.toArray k } : Obj))], s.heap.objs.size ≤ p.1 := fun p hp => by
      have e : p = (s.heap.objs.size, { cls := .type "list", data := .seq its.toArray k }) := by simpa using hp
      subst e
      exact Nat.le_refl _
    rcases turn i n ys H3 w3 with ⟨stop, zz⟩ | ⟨go, hlen, step⟩
    · refine thn (T.done (blk X N scope cl G.objs.size s H fp) rfl rfl rfl hc i _ s3 _ H3 _ I3p (stat fr3 pn3) st3 stop) fun r s4 ⟨hr, I4⟩ => ?_
      subst hr
      have a4 := I4.pin (s.heap.objs.size, { cls := .type "list", data := .seq its.toArray k }) (List.mem_append_right _ (by simp))
      exact hRR _ s4 ys its k H3 hlt v3 (I4.pins_of fun _ hp => nomatch hp) a4.1 n3 zz
    · refine thn (T.item (blk X N scope cl G.objs.size s H fp) rfl rfl rfl hc i _ s3 _ H3 _ I3p (stat fr3 pn3) st3 go) fun r s4 ⟨u, hr, h4⟩ => ?_
      subst hr
      refine thn h4 fun _ s5 ⟨x, H5, I5, r5, y5, st5, fr5⟩ => ?_
      have I5' := I5.pinned (stat fr5 pn3) (T.obj _ _ st5)
      refine thn (hg _ _ _ _ _ _ s5 _ H5 x u _ I5' r5 (hgk _ _ _ _ (step x H5 y5))) fun _ s6 ⟨σ6, H6, I6, kp6, q6⟩ => ?_
      refine thn (ht _ _ _ _ _ _ s6 σ6 H6 _ I6 q6) fun b s7 ⟨H7, I7, q7⟩ => ?_
      have back : ∀ {H8 : Hp} {s8 : Shared}, Inv (blk X N scope cl G.objs.size s H fp) ([(s.heap.objs.size, ({ cls := .type "list", data := .seq its.toArray k } : Obj))] ++ pinsAt fp s5.heap) σ6 H8 s8 →
          Inv (blk X N scope cl G.objs.size s H fp) [] (capSt nt caps σ) H8 s8 ∧ tn (i + 1) s8.heap ∧ (∀ b ∈ fp, H8 b = none) ∧ s8.heap.get? s.heap.objs.size = some { cls := .type "list", data := .seq its.toArray k } ∧ H8 s.heap.objs.size = none := fun {H8 s8} I8 => by
        have a8 := I8.pin (s.heap.objs.size, { cls := .type "list", data := .seq its.toArray k }) (List.mem_append_right _ (List.mem_append_left _ (by simp)))
        refine ⟨(I8.pins_of (pins' := []) fun _ hp => absurd hp (by simp)).weak (by rw [lenb, I8.len]; rfl) kp6, T.keep _ _ _ st5 fun b hb o e => (I8.pin (b, o) (List.mem_append_right _ (List.mem_append_right _ (mem_pinsAt hb e)))).1, fun b hb => ?_, a8.1, a8.2.1⟩
        obtain ⟨o, e, d⟩ := T.obj _ _ st5 b hb
        exact (I8.pin (b, o) (List.mem_append_right _ (List.mem_append_right _ (mem_pinsAt hb e)))).2.1
      cases b with
      | false =>
        rw [if_neg (by intro z; cases z)] at q7 ⊢
        obtain ⟨m', hm, w7⟩ := q7
        obtain ⟨b1, b2, b3, b4, b5⟩ := back I7
        exact ⟨m', hm, i + 1, ys, its, k, H7, b1, b2, b3, v3, b4, b5, z3, w7⟩
      | true =>
        rw [if_pos rfl] at q7 ⊢
        have fpin : ∀ b ∈ fp, ∃ o, (b, o) ∈ ([(s.heap.objs.size, ({ cls := .type "list", data := .seq its.toArray k } : Obj))] ++ pinsAt fp s5.heap) := fun b hb => by
          obtain ⟨o, e, _⟩ := T.obj _ _ st5 b hb
          exact ⟨o, List.mem_append_right _ (mem_pinsAt hb e)⟩
        refine wpAny_mono (he cl G.objs.size s H fp ([(s.heap.objs.size, ({ cls := .type "list", data := .seq its.toArray k } : Obj))] ++ pinsAt fp s5.heap) (Thr ((blk X N scope cl G.objs.size s H fp).pinned ([(s.heap.objs.size, ({ cls := .type "list", data := .seq its.toArray k } : Obj))] ++ pinsAt fp s5.heap)) E0) (fun x s' ⟨p1, σ1, H', e, T, C', fl, ex, J, n1, n2, a, q⟩ => ⟨p1, σ1, H', e, T, C', fl, ex, J.unwish, ⟨n1.old, n1.loc, n1.cel, n1.pin, n1.frm, n1.non⟩, ⟨n2.old, n2.loc, n2.cel, n2.pin, n2.frm, n2.non⟩, a, q⟩) [] s7 σ6 H7 _ (I7.pin1.wish _) q7) (fun u8 s8 ⟨y, H8, I8, r8, m', hm, w8⟩ => ?_) fun x8 s8 th8 => comp_err tk stk hfr hlt I hf fpin th8 (hRE _ _)
        have I8 := I8.unwish.unpin1
        obtain ⟨b1, b2, b3, b4, b5⟩ := back I8
        have hl := v3.length
        refine call_meets F.slot_list_append ⟨_, b4, rfl⟩ F.entry_list_append (F.args_list_append_2 _ _) (PySem.list_append s.heap.objs.size its.toArray k u8 (by rw [List.size_toArray]; omega)) ⟨b4, ?_⟩
        have q := PySem.IsL.update (show PySem.IsL s8.heap s.heap.objs.size its.toArray k from b4) (fun x => x.push u8)
        have eq : its.toArray.push u8 = (its ++ [u8]).toArray := by simp
        rw [eq] at q
        have keep : ∀ b' o, b' ≠ s.heap.objs.size → s8.heap.get? b' = some o → (s8.heap.update s.heap.objs.size (Obj.mapSeq fun x => x.push u8)).get? b' = some o := fun b' o hb hu =>
          (Heap.get?_update_other s8.heap (Obj.mapSeq fun x => x.push u8) (Ne.symm hb)).trans hu
        refine ⟨m', hm, i + 1, ys ++ [y], its ++ [u8], _, H8, b1.turned (t' := s8.toks) keep b5 hDC (.inr (Nat.le_refl _)) (fun x c e z => ?_) (fun p hp => by simp [blk] at hp), T.keep _ _ _ b2 fun b hb o e => keep b o (fun z => hDf (z ▸ hb)) e, b3,
          v3.append (.cons r8 .nil), q, b5, ?_, w8⟩
        · exact absurd (celt x c e) (by rw [z]; exact Nat.lt_irrefl _)
        · rw [List.length_append, List.length_singleton]; omega
  exact codeAny_compStart_list (loop _ rfl) (T.self _ 0 _ _ _ (T.keep _ _ _ st fun b hb o e => old b o e) (loop _ rfl))
theorem ps_compX {E0 : XK} {i : Nat} {y : Str} {py spos : Pos} (hN : X.N.Nodup) (hyi : X.N[i]? = some y) (hy : X.env.scope.names.lookup y = some .local) (hsw : swapsWith (.ListComp elt [⟨tg, iter, ifs, 0⟩] scope pos) (some (.Name y py)) spos.line X.env = pure true)
    (ok : CompOk X N nt caps scope) (hc : X.calm = true) (hi : PI X tg iter wi)
    (hg : ∀ cl C s H fp, PG (blk X N scope cl C s H fp) tg g) (hgk : GKeep nt g) (ht : ∀ cl C s H fp, PTs (blk X N scope cl C s H fp) ifs tt) (he : ∀ cl C s H fp ps xe, Takes (((blk X N scope cl C s H fp).pinned ps).wish xe) E0 → PE (((blk X N scope cl C s H fp).pinned ps).wish xe) elt te) (tk : Takes X E0) (stk : X.stack = X.env :: X.outer) (hfr : X.env.frame = some X.env.locals)
    (hs : ∀ x, foldedSetIterable iter X.env x = pure x := by intro _; rfl) : PS X (.Assign [.Name y py] (.ListComp elt [⟨tg, iter, ifs, 0⟩] scope pos) spos) (tAsg (tComp nt caps wi g tt te) (gName i)) := by
  intro pins s σ H D I h
  obtain ⟨cl, hcl, h1, h2⟩ := closure_some (scope := scope) (env := X.env) fun n hn => I.ok.has n (ok.free n hn)
  rw [exec_Assign_Name_used _ _ _ _ hsw]
  refine wpAny_bind (wpAny_standAt (wpAny_bind ?_))
  show wpAny _ X.A (do let _ ← comprehension (.ListComp elt [⟨tg, iter, ifs, 0⟩] scope pos) scope X.env _ (newList []) false (eval iter X.env) (some (assign (.Name y py) X.env))) _ _ s
  refine wpAny_bind (wpAny_mono (wpAny_comprehension_free (use := some (assign (.Name y py) X.env)) (Q := fun _ s' => SP X pins D .next s') rfl hs hcl ok.kind ok.names
    (thn (hi pins s σ H _ I h) fun xv s1 h1' => thn h1' fun itv s2 h2' => ?_)) (fun _ s' hq => wpAny_pure (wpAny_pure hq)) fun _ _ e => e)
  obtain ⟨it, fp, tn, J, H2, e, I2, T, st2, f2, W, ⟨m0, w0⟩, turn⟩ := h2'
  subst e
  refine comp_runX (RR := fun acc C => compPost (model X.prog X.w) X.A X.xe (some (assign (.Name y py) X.env)) (fun _ s' => SP X pins D .next s') acc C) ok hc h1 h2 hg hgk ht he tk stk hfr I2 T st2 f2 W
    (fun ys H' => ys.length ≤ sizeLine ∧ ∀ p, H' p = none → gName i (.ref p) σ (upd H' p (.lst ys)) D.nx) m0 w0 turn ?_ (fun _ _ _ z => z)
  intro C s' ys its n H' hC v IY e en zz
  obtain ⟨m, hn, _⟩ := IY.loc
  have I3 : Inv X pins σ (upd H' s2.heap.objs.size (.lst ys)) s' := comp_back (h' := s'.heap) I2 f2 hC v zz.1 IY e en fun b o hb q => q
  obtain ⟨o, es, ep, ho, r⟩ := id hn
  have fC : FpOk X pins (upd H' s2.heap.objs.size (.lst ys)) C := by
    have f := I2.fpOk (H' := H') (b := C) (Nat.le_of_lt hC) IY.free
    refine ⟨by rw [upd_ne (Ne.symm (Nat.ne_of_lt hC))]; exact IY.free, f.2⟩
  show wpAny (model X.prog X.w) X.A (assign (.Name y py) X.env (.ref s2.heap.objs.size)) (fun _ s'' => ∃ m, s''.heap.Ns C m ∧ ∀ h', Heap.SameBut C s''.heap h' → SP X pins D .next { s'' with heap := h' }) X.xe s'
  have I3p : Inv X (pins ++ [(C, o)]) σ (upd H' s2.heap.objs.size (.lst ys)) s' := I3.pins_of fun p hp => by
    rcases List.mem_append.mp hp with z | z
    · exact I3.pin p (List.mem_append_right _ z)
    · have e : p = (C, o) := by simpa using z
      subst e
      exact ⟨ho, fC.1, fC.2.1, fC.2.2.1, fun v z => by rw [r.1] at z; cases z⟩
  refine wpAny_assign_Name (store_ok I3p hN hyi (.inl hy) (v := .ref s2.heap.objs.size) rfl (fun s4 I4 => ?_) (.inr hy))
  have a4 := I4.pin (C, o) (List.mem_append_right _ (List.mem_append_right _ (by simp)))
  refine ⟨m, ⟨o, es, ep, a4.1, r⟩, fun h' hs' => ⟨_, _, ?_, zz.2 _ en⟩⟩
  exact (I4.unpinned).turned (t' := s4.toks) (fun b o' hb q => hs'.extBut b o' hb q) fC.1 fC.2.1 fC.2.2.2.1 fC.2.2.2.2.1 fC.2.2.2.2.2
end
end L2
namespace Tx
open PySem
def rS (ws : List Str) (z : Str) : Option Nat :=
  if Txt.split z "+" = [("-" : Str)] then some 0 else
  if (∀ w ∈ Txt.split z "+", w ∈ ws) ∧ ((Txt.split z "+").map fun w => ws.idxOf w).Pairwise (· < ·) then some (Fam.ofN ((Txt.split z "+").map fun w => ws.idxOf w)) else none
def rF (ws : List Str) (z : Str) : Option (List Nat) :=
  if Txt.split z " " = [("none" : Str)] then some [] else
  if (∀ p ∈ Txt.split z " ", (rS ws p).isSome = true) ∧ ((Txt.split z " ").map fun p => (rS ws p).getD 0).length ≤ 70 ∧ ((Txt.split z " ").map fun p => (rS ws p).getD 0).Pairwise (· < ·) then some ((Txt.split z " ").map fun p => (rS ws p).getD 0) else none
section
variable {ws : List Str} {a b : Nat}
theorem dash_not (h : Wds ws) : ("-" : Str) ∉ ws := fun z => by
  have := (h.wd _ z).2.2 45 (by rw [lit_dash]; exact List.mem_cons_self)
  omega
theorem rS_sT (h : Wds ws) (ha : a < 2 ^ ws.length) : rS ws (sT ws a) = some a := by
  unfold rS
  rw [split_sT h ha]
  by_cases c : a = 0
  · rw [if_pos c, if_pos rfl, c]
  · rw [if_neg c, if_neg, if_pos, idx_wds h ha, Fam.ofN_nms (lt256 h ha)]
    · rw [idx_wds h ha]
      exact ⟨fun w hw => wds_mem h ha hw, Fam.nms_rise 8 a⟩
    · intro z
      exact dash_not h (wds_mem h ha (by rw [z]; exact List.mem_cons_self))
theorem rS_lt (h : Wds ws) {z : Str} (e : rS ws z = some a) : a < 2 ^ ws.length := by
  unfold rS at e
  split at e
  · cases e
    exact Nat.two_pow_pos _
  · split at e
    · rename_i c
      cases e
      refine Fam.ofN_lt fun k hk => ?_
      obtain ⟨w, hw, rfl⟩ := List.mem_map.mp hk
      exact List.idxOf_lt_length_of_mem (c.1 w hw)
    · cases e
theorem map_rS (h : Wds ws) {fs : List Nat} (hf : ∀ b ∈ fs, b < 2 ^ ws.length) : (fs.map (sT ws)).map (fun p => (rS ws p).getD 0) = fs := by
  rw [List.map_map]
  conv => rhs; rw [← List.map_id fs]
  refine List.map_congr_left fun x hx => ?_
  show (rS ws (sT ws x)).getD 0 = x
  rw [rS_sT h (hf x hx)]
  rfl
theorem all_rS (h : Wds ws) {fs : List Nat} (hf : ∀ b ∈ fs, b < 2 ^ ws.length) : ∀ p ∈ fs.map (sT ws), (rS ws p).isSome = true := fun p hp => by
  obtain ⟨x, hx, rfl⟩ := List.mem_map.mp hp
  rw [rS_sT h (hf x hx)]
  rfl
theorem rF_fT (h : Wds ws) {fs : List Nat} (hf : ∀ b ∈ fs, b < 2 ^ ws.length) (hr : fs.Pairwise (· < ·)) (hl : fs.length ≤ 70) : rF ws (fT ws fs) = some fs := by
  unfold rF
  rw [split_fT h hf]
  by_cases c : fs = []
  · rw [if_pos c, if_pos rfl, c]
  · rw [if_neg c, if_neg, map_rS h hf, if_pos ⟨all_rS h hf, hl, hr⟩]
    intro z
    have hm : ("none" : Str) ∈ fs.map (sT ws) := by rw [z]; exact List.mem_cons_self
    obtain ⟨x, hx, e⟩ := List.mem_map.mp hm
    exact sT_none h (hf x hx) e
theorem split_len (z : Str) (c : Nat) : (Txt.split z ⟨#[c]⟩).length ≤ z.length + 1 := by
  have e1 := StrLaws.join_split z ⟨#[c]⟩
  have e2 := congrArg sg e1
  rw [sg_join] at e2
  have : ∀ xs : List (List Nat), xs.length ≤ (jn c xs).length + 1 := by
    intro xs
    induction xs with
    | nil => exact Nat.zero_le _
    | cons x r ih =>
      cases r with
      | nil => exact Nat.le_add_left _ _
      | cons y r =>
        show (y :: r).length + 1 ≤ (x ++ c :: jn c (y :: r)).length + 1
        rw [List.length_append, List.length_cons (as := jn c (y :: r))]
        omega
  have h := this ((Txt.split z ⟨#[c]⟩).map sg)
  rw [e2, List.length_map, len_sg] at h
  exact h
theorem part_len (z : Str) (c : Nat) : ∀ p ∈ Txt.split z ⟨#[c]⟩, p.length ≤ z.length := by
  have e1 := StrLaws.join_split z ⟨#[c]⟩
  have e2 := congrArg sg e1
  rw [sg_join] at e2
  have : ∀ xs : List (List Nat), ∀ x ∈ xs, x.length ≤ (jn c xs).length := by
    intro xs
    induction xs with
    | nil => intro x hx; cases hx
    | cons x r ih =>
      intro y hy
      cases r with
      | nil => rw [List.mem_singleton.mp hy]; exact Nat.le_refl _
      | cons y' r =>
        show _ ≤ (x ++ c :: jn c (y' :: r)).length
        rw [List.length_append, List.length_cons]
        rcases List.mem_cons.mp hy with rfl | hy
        · omega
        · have := ih y hy
          omega
  intro p hp
  have h := this ((Txt.split z ⟨#[c]⟩).map sg) (sg p) (List.mem_map.mpr ⟨p, hp, rfl⟩)
  rw [e2, len_sg, len_sg] at h
  exact h
end
end Tx
namespace L2
open PySem PySem.Spec PyProof.Rows
section
variable {X : Cx} {K : PySem.W.Frag}
def rEqM (K : PySem.W.Frag) : R2 := fun x y H Q => rEqX K x y H Q ∨ rEqD K x y H Q
def rNeM (K : PySem.W.Frag) : R2 := fun x y H Q => rNeX K x y H Q ∨ rNeD K x y H Q
theorem op_eqM (h : X.K = K) (hu0 : X.A.units < cLine) (hu : X.A.units + 64 < cLine) : OpR X (compareOp .Eq) (rEqM K) := by
  intro pins s σ H x y v u Q I rx ry q
  rcases q with q | q
  · exact op_eqK h hu0 pins s σ H x y v u Q I rx ry q
  · exact op_eqD h hu pins s σ H x y v u Q I rx ry q
theorem op_neM (h : X.K = K) (hu0 : X.A.units < cLine) (hu : X.A.units + 64 < cLine) : OpR X (compareOp .NotEq) (rNeM K) := by
  intro pins s σ H x y v u Q I rx ry q
  rcases q with q | q
  · exact op_neK h hu0 pins s σ H x y v u Q I rx ry q
  · exact op_neD h hu pins s σ H x y v u Q I rx ry q
end
end L2
namespace L2
open PySem PySem.Spec PyProof.Rows
section
variable {X : Cx} {e a b o : Expr} {es : List Expr} {te ta tb to : TE} {t : TA} {pos apos cpos : Pos}
def PE1 (X : Cx) (e : Expr) (t : TE) : Prop :=
  ∀ (pins : List (Addr × Obj)) (s : Shared) (σ : St) (H : Hp) (Q : VK), 1 ≤ s.toks → Inv X pins σ H s → t σ H Q → wpAny (model X.prog X.w) X.A (eval e X.env) (EP X pins σ Q) X.xe s
def PEp (X : Cx) (e : Expr) (t : TE) : Prop :=
  ∀ (pins : List (Addr × Obj)) (s : Shared) (σ : St) (H : Hp) (Q : VK), Inv X pins σ H s → t σ H Q → wpAny (model X.prog X.w) X.A (eval e X.env) (fun v s' => 1 ≤ s'.toks ∧ EP X pins σ Q v s') X.xe s
def PA1 (X : Cx) (es : List Expr) (t : TA) : Prop :=
  ∀ (pos : Pos) (pins : List (Addr × Obj)) (s : Shared) (σ : St) (H : Hp) (Q : List V → Hp → Prop), 1 ≤ s.toks → Inv X pins σ H s → t σ H Q → wpAny (model X.prog X.w) X.A (spliced (backTo pos (starEach es X.env))) (AP X pins σ Q) X.xe s
theorem pe1 (h : PE X e te) : PE1 X e te := fun pins s σ H Q _ I q => h pins s σ H Q I q
theorem pa1_nil : PA1 X [] tNil := fun pos pins s σ H Q _ I q => pa_nil pos pins s σ H Q I q
theorem pa1_cons (ha : PE1 X e te) (hr : PA1 X es t) (hs : starEach (e :: es) X.env = (false, eval e X.env) :: starEach es X.env := by rfl) : PA1 X (e :: es) (tCons te t) := by
  intro pos pins s σ H Q hp I h
  rw [hs]
  show wpAny _ _ (spliced ((false, eval e X.env) :: backTo pos (starEach es X.env))) _ _ s
  refine Calls.spliced_cons (wpAny_with_toks hp (wpAny_mono (ha pins s σ H _ hp I h) (fun u s1 ⟨x, H1, I1, r1, q1⟩ hp1 => ?_) fun _ _ q _ => q))
  exact thn (hr pos pins s1 σ H1 _ hp1 I1 q1) fun us s2 ⟨xs, H2, I2, r2, q2⟩ => ⟨x :: xs, H2, I2, .cons r1 r2, q2⟩
theorem pa_pos (ha : PEp X e te) (hr : PA1 X es t) (hs : starEach (e :: es) X.env = (false, eval e X.env) :: starEach es X.env := by rfl) : PA X (e :: es) (tCons te t) := by
  intro pos pins s σ H Q I h
  rw [hs]
  show wpAny _ _ (spliced ((false, eval e X.env) :: backTo pos (starEach es X.env))) _ _ s
  refine Calls.spliced_cons (thn (ha pins s σ H _ I h) fun u s1 ⟨hp1, x, H1, I1, r1, q1⟩ => ?_)
  exact thn (hr pos pins s1 σ H1 _ hp1 I1 q1) fun us s2 ⟨xs, H2, I2, r2, q2⟩ => ⟨x :: xs, H2, I2, .cons r1 r2, q2⟩
theorem pep_str {x j pos} : PEp X (.Constant (.str x) j pos) (tC (.str x)) := fun _ s _ H _ I h => Calls.Constant_str ⟨Nat.succ_le_succ (Nat.zero_le s.toks), .str x, H, I.tok _, ⟨_, rfl⟩, h⟩
theorem pep_op {op : Operator} {r : R2} {i : Int} {j : Nat} {p : Pos} (ho : OpR X (binaryOp op) r) (ha : PE X a ta) : PEp X (.BinOp a op (.Constant (.int i) j p) pos) (tOp r ta (tC (.int i))) := by
  intro pins s σ H Q I h
  refine wpAny_BinOp (thn (ha pins s σ H _ I h) fun v s1 ⟨x, H1, I1, r1, q1⟩ => wpAny_Constant_int ?_)
  exact wpAny_with_toks (n := 1) (Nat.succ_le_succ (Nat.zero_le s1.toks)) (wpAny_mono (ho pins _ σ H1 x (.int i) v _ Q (I1.tok _) r1 ⟨_, rfl⟩ q1) (fun _ _ q hp => ⟨hp, q⟩) fun _ _ q _ => q)
theorem pep_ix {r : R2} (hr : IxR X r) (ha : PE X a ta) (hb : PEp X b tb) (hs : PlainIx b) : PEp X (.Subscript a b pos) (tOp r ta tb) := by
  intro pins s σ H Q I h
  refine Subscript_ (thn (ha pins s σ H _ I h) fun v s1 ⟨x, H1, I1, r1, q1⟩ => thn (hb pins s1 σ H1 _ I1 q1) fun u s2 ⟨hp, y, H2, I2, r2, q2⟩ => ?_)
  exact wpAny_with_toks hp (wpAny_mono (hr a b pins s2 σ H2 x y v u Q I2 r1 r2 q2 (hs _ _)) (fun _ _ q hp => ⟨hp, q⟩) fun _ _ q _ => q)
def tRepl (y z : Str) (to : TE) : TE := fun σ H Q => to σ H fun x H1 => ∃ zz : Str, x = .str zz ∧ zz.length ≤ 10000 ∧ Q (.str (Txt.replace zz y z)) H1
theorem pe1_repl {y z : Str} {k1 k2 : Nat} {p1 p2 : Pos} (hyz : (y == z) = false) (hz : z.length ≤ 1) (ho : PE X o to)
    (hbase : attributeBase o "replace" X.env (eval o X.env) = eval o X.env := by rfl)
    (hfew : ((backTo cpos (starEach [.Constant (.str y) k1 p1, .Constant (.str z) k2 p2] X.env)).all (fun x => !x.1) && (backToKw cpos (keywordEach [] X.env)).all (fun x => x.1.isSome)
      && decide (([.Constant (.str y) k1 p1, .Constant (.str z) k2 p2] : List Expr).length + ([] : List Keyword).length + (if ([] : List Keyword).isEmpty then 0 else 1) < 30)) = true := by rfl)
    (hline : (apos.endLine == cpos.line) = true := by rfl) :
    PE1 X (.Call (.Attribute o "replace" apos) [.Constant (.str y) k1 p1, .Constant (.str z) k2 p2] [] cpos) (tRepl y z to) := by
  intro pins s σ H Q hp I h
  refine wpAny_Call_method_late hbase hfew hline rfl (wpAny_with_toks hp (wpAny_mono (ho pins s σ H _ I h) (fun v s1 ⟨x, H1, I1, r1, zz, ex, hl, q1⟩ hp1 => ?_) fun _ _ q _ => q))
  subst ex
  obtain ⟨h1, h2⟩ := tyV_is (T := "str") I1 r1 rfl
  obtain ⟨tk, rfl⟩ := id r1
  refine ⟨"str", "str.replace", PySem.F.plainAttrs_str, PySem.F.slot_str_replace, PySem.F.type_str_replace, h1, h2, ?_⟩
  refine Calls.callWith_builtin rfl (Calls.evalArgs_plain ?_)
  refine Calls.spliced_cons (Calls.Constant_str (k := k1) (pos := p1) ?_)
  refine Calls.spliced_cons (Calls.Constant_str (k := k2) (pos := p2) (Calls.spliced_nil ?_))
  refine SC.replace (by show s1.toks ≠ 0; omega) (by show s1.toks + 1 ≠ 0; omega) (by show s1.toks ≠ s1.toks + 1; omega) hyz ?_ fun t' k => ⟨.str _, H1, I1.tok _, ⟨_, rfl⟩, q1⟩
  have : (zz.length + 1) * z.length ≤ (zz.length + 1) * 1 := Nat.mul_le_mul_left _ hz
  omega
end
def As (z : Str) : Prop := ∀ c ∈ Tx.sg z, c < 128
theorem up_sg : ∀ l : List Nat, (∀ c ∈ l, c < 128) → Tx.sg (Txt.upper ⟨l.toArray⟩) = l.map fun c => if 97 ≤ c ∧ c ≤ 122 then c - 32 else c
  | [], _ => by decide +kernel
  | c :: l, h => by
    have e : (⟨(c :: l).toArray⟩ : Str) = ⟨#[c]⟩ ++ ⟨l.toArray⟩ := Tx.ext (by rw [Tx.sg_app]; simp [Tx.sg])
    rw [e, PySem.W.KOpn.upper_app, Tx.sg_app, up_sg l fun d hd => h d (List.mem_cons_of_mem _ hd), PySem.W.KOpn.upper_one (h c List.mem_cons_self)]
    rfl
theorem up_len {z : Str} (h : As z) : (Txt.upper z).length = z.length := by
  have e : z = ⟨(Tx.sg z).toArray⟩ := Tx.ext (by simp [Tx.sg])
  rw [← Tx.len_sg, ← Tx.len_sg z]
  conv => lhs; rw [e, up_sg _ h]
  rw [List.length_map]
theorem up_as {z : Str} (h : As z) : As (Txt.upper z) := by
  have e : z = ⟨(Tx.sg z).toArray⟩ := Tx.ext (by simp [Tx.sg])
  intro c hc
  rw [e, up_sg _ h] at hc
  obtain ⟨d, hd, rfl⟩ := List.mem_map.mp hc
  have := h d hd
  split <;> omega
def rUpper : V → List V → Hp → VK → Prop := fun x vs H Q => ∃ z : Str, x = .str z ∧ vs = [] ∧ As z ∧ z.length ≤ 10000 ∧ Q (.str (Txt.upper z)) H
section
variable {X : Cx}
theorem mt_upper : MtR X "str.upper" rUpper := by
  intro pins s σ H x vs v us Q I rx rv h
  obtain ⟨z, rfl, rfl, ha, hz, q⟩ := h
  obtain ⟨t, rfl⟩ := rx
  cases rv
  have e24 : sizeLine = 16777216 := sizeLine_eq
  refine SC.upper ?_ ⟨.str (Txt.upper z), H, I.tok _, ⟨_, rfl⟩, q⟩
  rw [up_len ha]
  unfold Builtin.Str.tooLong
  exact decide_eq_false (by omega)
def rMulS : R2 := fun x y H Q => ∃ (z : Str) (n : Nat), x = .str z ∧ y = .int (n : Nat) ∧ 1 ≤ n ∧ n ≤ 100 ∧ z.length ≤ 100 ∧ ∀ r : Str, (∀ c ∈ Tx.sg r, c ∈ Tx.sg z) → r.length = n * z.length → Q (.str r) H
end
theorem As.app {a b : Str} (h1 : As a) (h2 : As b) : As (a ++ b) := fun c hc => by
  rw [Tx.sg_app] at hc
  rcases List.mem_append.mp hc with z | z
  · exact h1 c z
  · exact h2 c z
theorem As.slice {z : Str} (h : As z) {lo hi : Option Int} : As (Txt.slice z lo hi) := fun c hc => h c (slice_sub c hc)
theorem slice_le {z : Str} {lo hi : Option Int} : (Txt.slice z lo hi).length ≤ z.length := by
  unfold Txt.slice
  split
  · exact Nat.le_refl _
  · show ((Builtin.Str.strSliceIndices lo hi 1 z.length).filterMap (z.cps[·]?)).toArray.size ≤ _
    rw [List.size_toArray]
    exact Nat.le_trans (List.length_filterMap_le _ _) (PySem.sliceIndices_le lo hi z.length)
theorem mem_jn {c d : Nat} : ∀ {xs : List (List Nat)} {x : List Nat}, x ∈ xs → d ∈ x → d ∈ Tx.jn c xs
  | [y], x, hx, hd => by rw [List.mem_singleton.mp hx] at hd; exact hd
  | y :: y' :: r, x, hx, hd => by
    show d ∈ y ++ c :: Tx.jn c (y' :: r)
    rcases List.mem_cons.mp hx with rfl | hx
    · exact List.mem_append_left _ hd
    · exact List.mem_append_right _ (List.mem_cons_of_mem _ (mem_jn hx hd))
theorem jn_len_eq {c d : Nat} : ∀ xs : List (List Nat), (Tx.jn c xs).length = (Tx.jn d xs).length
  | [] => rfl
  | [x] => rfl
  | x :: y :: r => by
    show (x ++ c :: Tx.jn c (y :: r)).length = (x ++ d :: Tx.jn d (y :: r)).length
    rw [List.length_append, List.length_append, List.length_cons, List.length_cons, jn_len_eq (y :: r)]
theorem part_as {z : Str} (h : As z) (c : Nat) : ∀ p ∈ Txt.split z ⟨#[c]⟩, As p := fun p hp d hd => by
  have e2 := congrArg Tx.sg (StrLaws.join_split z ⟨#[c]⟩)
  rw [Tx.sg_join] at e2
  exact h d (e2 ▸ mem_jn (List.mem_map.mpr ⟨p, hp, rfl⟩) hd)
theorem join_as {c : Nat} (hc : c < 128) {ys : List Str} (h : ∀ y ∈ ys, As y) : As (Txt.join ⟨#[c]⟩ ys) := fun d hd => by
  rw [Tx.txt_join] at hd
  rcases Tx.jn_mem hd with e | ⟨x, hx, hd⟩
  · omega
  · obtain ⟨y, hy, rfl⟩ := List.mem_map.mp hx
    exact h y hy d hd
theorem repl_as {z : Str} (h : As z) {c d : Nat} (hd : d < 128) : As (Txt.replace z ⟨#[c]⟩ ⟨#[d]⟩) := by
  rw [StrLaws.replace_one, ← show Txt.join ⟨#[d]⟩ (Txt.split z ⟨#[c]⟩) = Str.join ⟨#[d]⟩ (Txt.split z ⟨#[c]⟩) from StrLaws.glued_eq_join _ _]
  exact join_as hd (part_as h c)
theorem repl_len {z : Str} {c d : Nat} : (Txt.replace z ⟨#[c]⟩ ⟨#[d]⟩).length = z.length := by
  have e2 := congrArg Tx.sg (StrLaws.join_split z ⟨#[c]⟩)
  rw [Tx.sg_join] at e2
  rw [StrLaws.replace_one, ← Tx.len_sg, Tx.sg_join, jn_len_eq (d := c), e2, Tx.len_sg]
theorem wd_as {w : Str} (h : Tx.Wd w) : As w := fun c hc => by
  have := h.2.2 c hc
  omega
end L2
namespace L2
open PySem PySem.Spec PyProof.Rows
def wdB (z : Str) : Bool := decide (1 ≤ z.length) && decide (z.length ≤ 8) && (Tx.sg z).all fun c => decide (97 ≤ c) && decide (c ≤ 122)
def rN (z : Str) : Option (List Str) :=
  if Txt.split z " " = [("" : Str)] then some [] else
  if ((Txt.split z " ").all fun w => wdB w && !decide (w = ("none" : Str))) = true ∧ (Txt.split z " ").length ≤ 8 ∧ cnt (Txt.split z " ") = (Txt.split z " ").length then some (Txt.split z " ") else none
def sp0 (r : Hp → VK → Prop) : Sp := fun vs H Q _ => vs = [] ∧ r H Q
theorem sub_str {t : String} (h : t ≠ "str") : subT t "str" = false := by
  unfold subT
  rw [show (t == "str") = false from beq_eq_false_iff_ne.mpr h]
  cases (t == "bool") <;> rfl
def Gv (n : Nat) (H : Hp) (v : V) : Prop := (∃ z : Str, v = .str z ∧ As z ∧ z.length ≤ n) ∨ ∃ t, kdOf H v = some t ∧ t ≠ "str"
theorem kd_same {H H' : Hp} (s : Same H H') {v : V} {t : String} (h : kdOf H v = some t) : kdOf H' v = some t := by
  cases v with
  | ref a =>
    unfold kdOf at h ⊢
    dsimp only at h ⊢
    cases e : H a with
    | none => rw [e] at h; cases h
    | some o => rw [s a o e]; rw [e] at h; exact h
  | _ => exact h
theorem Gv.same {n : Nat} {H H' : Hp} {v : V} (g : Gv n H v) (s : Same H H') : Gv n H' v := by
  rcases g with g | ⟨t, h1, h2⟩
  · exact .inl g
  · exact .inr ⟨t, kd_same s h1, h2⟩
theorem pe_cal0 {X : Cx} {x : Str} {p pos : Pos} {k j : Nat} {ps : List Str} {sp : Sp} {f : Addr} {fd : FuncData} (C : Cal X.prog X.w X.K X.mg X.base x k ps sp f fd) (hr : Room j X.A) (hj : k ≤ j) (hg : Gl X x) (hdb : (x == ("__debug__" : Str)) = false := by decide) :
    PE X (.Call (.Name x p) [] [] pos) (tCall sp [] E0 tNil) := pe_call0 C.ok (hr.mono hj) hg C.mg C.kp C.bd .nil pass0 hdb
end L2
namespace L2
open PySem PySem.Spec PyProof.Rows
theorem gv_s {n : Nat} {H : Hp} {z : Str} (h1 : As z) (h2 : z.length ≤ n) : Gv n H (.str z) := .inl ⟨z, rfl, h1, h2⟩
def Gvs (n : Nat) (H : Hp) (ys : List V) : Prop := ∀ y ∈ ys, Gv n H y
theorem gvs_nil {n : Nat} {H : Hp} : Gvs n H [] := fun y hy => by cases hy
theorem gvs_cons {n : Nat} {H : Hp} {y : V} {ys : List V} (h : Gv n H y) (t : Gvs n H ys) : Gvs n H (y :: ys) := fun z hz => by
  rcases List.mem_cons.mp hz with rfl | hz
  · exact h
  · exact t z hz
def Gll (n : Nat) (H0 H : Hp) (p : Addr) (k : Nat) : Prop := Same H0 H ∧ ∃ xs : List V, H p = some (.lst xs) ∧ xs.length = k ∧ Gvs n H xs
section
variable {K : PySem.W.Frag} {n k : Nat} {H0 H H1 : Hp} {pl : Addr} {ys : List V} {Q : VK}
theorem Gll.more (g : Gll n H0 H pl k) (s : Same H H1) (hy : Gvs n H1 ys) (hl : k + ys.length ≤ 1000) (q : ∀ p' H', Gll n H0 H' p' (k + ys.length) → Q (.ref p') H') : ys.length ≤ sizeLine ∧ ∀ p1, H1 p1 = none → rCatS K (.ref pl) (.ref p1) (upd H1 p1 (.lst ys)) Q := by
  obtain ⟨s0, xs, ax, lx, hx⟩ := g
  refine ⟨small5 (by omega), fun p1 hp1 => ⟨pl, p1, xs, ys, rfl, rfl, SqL.of (Same.new hp1 _ _ (s _ _ ax)), SqL.of upd_same, small5 (by omega), fun p hp => q p _ ⟨((s0.trans s).trans (Same.new hp1)).trans (Same.new hp), _, upd_same, by rw [List.length_append, lx], fun x hx' => ?_⟩⟩⟩
  rcases List.mem_append.mp hx' with z | z
  · exact ((hx x z).same s).same ((Same.new hp1).trans (Same.new hp))
  · exact (hy x z).same ((Same.new hp1).trans (Same.new hp))
theorem Gll.first (s : Same H0 H) (hy : Gvs n H ys) (hl : ys.length ≤ 1000) (q : ∀ p' H', Gll n H0 H' p' ys.length → Q (.ref p') H') : ys.length ≤ sizeLine ∧ ∀ p1, H p1 = none → Q (.ref p1) (upd H p1 (.lst ys)) :=
  ⟨small5 (by omega), fun p1 hp1 => q _ _ ⟨s.trans (Same.new hp1), _, upd_same, rfl, fun y hm => (hy y hm).same (Same.new hp1)⟩⟩
theorem slS {t : Str} {lo hi : Option Int} (h : t.length ≤ 10000) (q : Q (.str (Txt.slice t lo hi)) H) : rSlS (.str t) lo hi H Q := ⟨t, rfl, by omega, q⟩
end
end L2
namespace L2
open PySem PySem.Spec PyProof.Rows
theorem struck_as {z : Str} (h : As z) (c : Nat) : As (Txt.replace z ⟨#[c]⟩ ⟨#[]⟩) := fun d hd => by
  have e : Tx.sg (Txt.replace z ⟨#[c]⟩ ⟨#[]⟩) = (Tx.sg z).filter (· != c) := replace_strikes z c
  rw [e] at hd
  exact h d (List.mem_filter.mp hd).1
theorem struck_len {z : Str} (c : Nat) : (Txt.replace z ⟨#[c]⟩ ⟨#[]⟩).length ≤ z.length := by
  have e : Tx.sg (Txt.replace z ⟨#[c]⟩ ⟨#[]⟩) = (Tx.sg z).filter (· != c) := replace_strikes z c
  rw [← Tx.len_sg, e, ← Tx.len_sg z]
  exact List.length_filter_le _ _
theorem rev_jn {c : Nat} : ∀ xs : List (List Nat), (Tx.jn c xs.reverse).length = (Tx.jn c xs).length := by
  have tot : ∀ xs : List (List Nat), (Tx.jn c xs).length + (if xs = [] then 1 else 0) + 1 = (xs.map fun x => x.length + 1).sum + (if xs = [] then 2 else 0) := by
    intro xs
    induction xs with
    | nil => rfl
    | cons x r ih =>
      cases r with
      | nil => simp [Tx.jn]
      | cons y r =>
        rw [Tx.jn_cons (by simp), List.length_append, List.length_cons]
        rw [if_neg (by simp), if_neg (by simp)] at ih ⊢
        rw [List.map_cons, List.sum_cons]
        omega
  intro xs
  have h1 := tot xs
  have h2 := tot xs.reverse
  have e : (xs.reverse.map fun x => x.length + 1).sum = (xs.map fun x => x.length + 1).sum := by
    rw [List.map_reverse, List.sum_reverse]
  rw [e] at h2
  by_cases h0 : xs = []
  · rw [h0]; rfl
  · rw [if_neg h0, if_neg h0] at h1
    rw [if_neg (by simpa using h0), if_neg (by simpa using h0)] at h2
    omega
theorem turned {z : Str} (h : As z) {c : Nat} (hc : c < 128) : As (Txt.join ⟨#[c]⟩ (Txt.split z ⟨#[c]⟩).reverse) ∧ (Txt.join ⟨#[c]⟩ (Txt.split z ⟨#[c]⟩).reverse).length = z.length := by
  refine ⟨join_as hc fun y hy => part_as h c y (List.mem_reverse.mp hy), ?_⟩
  have e2 := congrArg Tx.sg (StrLaws.join_split z ⟨#[c]⟩)
  rw [Tx.sg_join] at e2
  rw [← Tx.len_sg, Tx.txt_join, List.map_reverse, rev_jn, e2, Tx.len_sg]
theorem dash_iff {z : Str} : Txt.split z "+" = [("-" : Str)] ↔ z = "-" := by
  constructor
  · intro h
    have e1 := StrLaws.join_split z "+"
    rw [h] at e1
    exact e1.symm
  · rintro rfl
    decide +kernel
theorem noneT_iff {z : Str} : Txt.split z " " = [("none" : Str)] ↔ z = "none" := by
  constructor
  · intro h
    have e1 := StrLaws.join_split z " "
    rw [h] at e1
    exact e1.symm
  · rintro rfl
    decide +kernel
theorem only_one {c : Nat} : ∀ {L : List Nat}, L.Nodup → (∀ x ∈ L, x = c) → c ∈ L → L = [c]
  | [], _, _, h => by cases h
  | x :: r, nd, h, _ => by
    have e := h x List.mem_cons_self
    subst e
    cases r with
    | nil => rfl
    | cons y r =>
      have := h y (List.mem_cons_of_mem _ List.mem_cons_self)
      subst this
      exact absurd List.mem_cons_self (List.nodup_cons.mp nd).1
theorem places {ws : List Str} (nd : ws.Nodup) (w : Str) : (List.range ws.length).filter (fun k => decide (ws.getD k Str.empty = w)) = if w ∈ ws then [ws.idxOf w] else [] := by
  have at' : ∀ k, k < ws.length → ws[k]? = some (ws.getD k Str.empty) := fun k hk => by rw [List.getD_eq_getElem?_getD, List.getElem?_eq_getElem hk]; rfl
  by_cases h : w ∈ ws
  · rw [if_pos h]
    have hl := List.idxOf_lt_length_of_mem h
    refine only_one (List.nodup_range.sublist List.filter_sublist) (fun x hx => ?_) ?_
    · obtain ⟨h1, h2⟩ := List.mem_filter.mp hx
      have h1 := List.mem_range.mp h1
      have h2 := of_decide_eq_true h2
      have e1 := at' x h1
      have e2 : ws[ws.idxOf w]? = some w := by rw [List.getElem?_eq_getElem hl, List.getElem_idxOf]
      rw [h2] at e1
      obtain ⟨q1, q2⟩ := List.getElem?_eq_some_iff.mp e1
      obtain ⟨q3, q4⟩ := List.getElem?_eq_some_iff.mp e2
      exact (List.getElem_inj nd).mp (q2.trans q4.symm)
    · refine List.mem_filter.mpr ⟨List.mem_range.mpr hl, decide_eq_true ?_⟩
      have e2 : ws[ws.idxOf w]? = some w := by rw [List.getElem?_eq_getElem hl, List.getElem_idxOf]
      have := at' _ hl
      rw [e2] at this
      exact (Option.some.inj this).symm
  · rw [if_neg h, List.filter_eq_nil_iff]
    intro k hk z
    have z := of_decide_eq_true z
    exact h (z ▸ List.mem_of_getElem? (at' k (List.mem_range.mp hk)))
theorem ofN_snoc (L : List Nat) (k : Nat) : Fam.ofN (L ++ [k]) = Fam.ofN L ||| 2 ^ k := by
  unfold Fam.ofN
  rw [List.foldl_append]
  rfl
theorem pw_snoc {L : List Nat} {i a b : Nat} (h : (L.take (i + 1)).Pairwise (· < ·)) (h1 : L[i]? = some a) (h2 : L[i + 1]? = some b) : (L.take (i + 2)).Pairwise (· < ·) ↔ a < b := by
  have e2 : L.take (i + 2) = L.take (i + 1) ++ [b] := by rw [List.take_add_one, h2]; rfl
  have e1 : L.take (i + 1) = L.take i ++ [a] := by rw [List.take_add_one, h1]; rfl
  rw [e2, List.pairwise_append]
  constructor
  · rintro ⟨_, _, z⟩
    exact z a (by rw [e1]; simp) b (by simp)
  · intro z
    refine ⟨h, by simp, fun x hx y hy => ?_⟩
    rw [List.mem_singleton.mp hy]
    rw [e1] at hx h
    rcases List.mem_append.mp hx with q | q
    · exact Nat.lt_trans ((List.pairwise_append.mp h).2.2 x q a (by simp)) z
    · rw [List.mem_singleton.mp q]
      exact z
theorem loopFn {g : TG} {tb : TS} {D : Ends} {σ : L2.St} {H : Hp} {n : Nat} {lo : Int} (Pv : Nat → L2.St → Hp → Prop) (h0 : Pv 0 σ H)
    (hs : ∀ i σ H, i < n → Pv i σ H → ∀ N : L2.St → Hp → Prop, (∀ σ' H', Pv (i + 1) σ' H' → N σ' H') → g (.int (lo + i)) σ H fun σ2 H2 => tb { D with nx := N, ct := N, bk := D.nx } σ2 H2) (hd : ∀ σ H, Pv n σ H → D.nx σ H) : LoopJ (Itr lo n) g tb D σ H :=
  loopR Pv h0 (fun i σ H hi p => hs i σ H hi p _ fun _ _ q => q) hd
def vO (o : Option Nat) : V := match o with | some b => .int (b : Nat) | none => .non
theorem vO_flat (os : List (Option Nat)) : (os.map vO).all flatV = true := by
  rw [List.all_eq_true]
  intro x hx
  obtain ⟨o, _, rfl⟩ := List.mem_map.mp hx
  cases o <;> rfl
theorem vO_non (os : List (Option Nat)) : inV .non (os.map vO) = decide (none ∈ os) := by
  unfold inV
  rw [Bool.eq_iff_iff, List.any_eq_true, decide_eq_true_eq]
  constructor
  · rintro ⟨x, hx, e⟩
    obtain ⟨o, ho, rfl⟩ := List.mem_map.mp hx
    cases o with
    | none => exact ho
    | some b => cases e
  · intro h
    exact ⟨.non, List.mem_map.mpr ⟨none, h, rfl⟩, rfl⟩
theorem vO_some {os : List (Option Nat)} (h : none ∉ os) : os.map vO = nV (os.map fun o => o.getD 0) := by
  induction os with
  | nil => rfl
  | cons o r ih =>
    cases o with
    | none => exact absurd List.mem_cons_self h
    | some b =>
      rw [List.map_cons, ih fun z => h (List.mem_cons_of_mem _ z)]
      rfl
def rEqTS (K : PySem.W.Frag) : R2 := fun x y H Q => ∃ (t : Addr) (xs : List V) (z : Str), x = .ref t ∧ y = .str z ∧ SqT K H t xs ∧ Q (.bl false) H
theorem op_eqTS {X : Cx} {K : PySem.W.Frag} (hK : X.K = K) (hu : X.A.units < cLine) : OpR X (compareOp .Eq) (rEqTS K) := by
  subst hK
  intro pins s σ H x y v u Q I rx ry h
  obtain ⟨t, xs, z, rfl, rfl, ht, q⟩ := h
  cases (show v = Value.ref t from rx)
  obtain ⟨tk, rfl⟩ := ry
  obtain ⟨its, r, p, _⟩ := I.tuple ht
  exact SeqAt.RcAt.tuple_str z tk p hu _ _ _ _ ⟨.bl false, H, I, rfl, q⟩
theorem sT_as {ws : List Str} (hw : Tx.Wds ws) {a : Nat} (ha : a < 2 ^ ws.length) : As (Tx.sT ws a) := by
  unfold Tx.sT
  split
  · unfold As
    decide +kernel
  · rw [Tx.lit_plus]
    exact join_as (by decide) fun y hy => wd_as (hw.wd y (Tx.wds_mem hw ha hy))
theorem fT_as {ws : List Str} (hw : Tx.Wds ws) {fs : List Nat} (hf : ∀ b ∈ fs, b < 2 ^ ws.length) : As (Tx.fT ws fs) := by
  unfold Tx.fT
  split
  · unfold As
    decide +kernel
  · rw [Tx.lit_space]
    refine join_as (by decide) fun y hy => ?_
    obtain ⟨b, hb, rfl⟩ := List.mem_map.mp hy
    exact sT_as hw (hf b hb)
theorem fT_short {ws : List Str} (hw : Tx.Wds ws) {fs : List Nat} (hf : ∀ b ∈ fs, b < 2 ^ ws.length) (h0 : fs ≠ []) {n : Nat} (hn : fs.length ≤ n) : (Tx.fT ws fs).length ≤ n * 73 := by
  unfold Tx.fT
  rw [if_neg h0, ← Tx.len_sg, Tx.lit_space, Tx.txt_join]
  refine Nat.le_trans (Tx.jn_len (M := 72) fun x hx => ?_) (Nat.mul_le_mul_right 73 (by rw [List.length_map, List.length_map]; exact hn))
  obtain ⟨w, hw', rfl⟩ := List.mem_map.mp hx
  obtain ⟨b, hb, rfl⟩ := List.mem_map.mp hw'
  rw [Tx.len_sg]
  exact Tx.sT_len hw (hf b hb)
end L2
namespace L2
open PySem PySem.Spec PyProof.Rows
theorem len_low : ∀ (n : Nat) (A : List Int), A.Nodup → (∀ x ∈ A, 0 ≤ x ∧ x < (n : Int)) → A.length ≤ n
  | 0, A, _, h => by
    cases A with
    | nil => exact Nat.le_refl _
    | cons x r => have := h x List.mem_cons_self; omega
  | n + 1, A, nd, h => by
    have ih := len_low n (A.erase (n : Int)) (nd.erase _) fun x hx => by
      have h1 := h x (List.mem_of_mem_erase hx)
      have h2 : x ≠ (n : Int) := fun e => by
        subst e
        exact (List.Nodup.not_mem_erase nd) hx
      omega
    by_cases hm : (n : Int) ∈ A
    · rw [List.length_erase_of_mem hm] at ih
      omega
    · rw [List.erase_of_not_mem hm] at ih
      omega
theorem dedup_low {ns : List Int} {n : Nat} (h : ∀ x ∈ ns, 0 ≤ x ∧ x < (n : Int)) : (dedup ns).length ≤ n := len_low n _ (nodup_dedup ns) fun x hx => h x (mem_dedup.mp hx)
theorem dedup_idx {ws P : List Str} {N : Nat} (h8 : ws.length ≤ 8) (m : ∀ w ∈ P, w ∈ ws) (hN : 8 ≤ N) : (dedup (nI (P.map fun w => ws.idxOf w))).length ≤ N := by
  refine Nat.le_trans (dedup_low (n := 8) fun x hx => ?_) hN
  obtain ⟨k, hk, rfl⟩ := List.mem_map.mp hx
  obtain ⟨w, hw, rfl⟩ := List.mem_map.mp hk
  have := List.idxOf_lt_length_of_mem (m w hw)
  omega
end L2
open L2 in
local macro_rules | `(tactic| walk_at "rd") => `(tactic| simp only [tSeq_asg, tSeq_drop, tSeq_for, tSeq_while, tSeq_ifr, tIfS_ap, ite_true, ite_false, tNext, tRet, tRetN, tDrop, tAsg, gName, tVar, tC, tOp, tUn, rU, tTest, tB, tAnd, tOr, tNot, tAndV, tOrV, tNotV, tCons, tNil, tCall, tCB, tTup, tLst, tChain, tBM, tBM0, tDNewK, rIsinst, tFor_l, tFor_r1, tFor_r2, tFor_rv, tRev, tYes, sDPut, tDGet, gTup, gCons, gNil, tComp_l, tComp_r1, tComp_r2, tSl, tNoPart, tPart, gSub, tInts, tPar, tComp_t, tFor_s, tComp_s, tSeq_ifv, tSeq_ifx, tSeq_try, tSeq_tryN, tDIn, tDNotIn, tRaise, tRepl, rUpper, rMulS, cx_K, tyV_upd,
  rEqX_i, rNeX_i, rEqX_b, rNeX_b, rEqX_s, rNeX_s, rCatS_i, rEqL_i, rEqL_b, rEqL_s, rEqL_n, rNeL_i, rNeL_b, rNeL_s, rNeL_n, rEq_r, rNe_r, rEq_i, rNe_i, rEq_b, rNe_b, rEq_s, rNe_s, rI0_r, rI0_i, rI_i, rApp_upd,
  capSt, List.replicate_succ, List.replicate_zero, List.map_cons, List.map_nil, Option.join_some, rIn, List.append_nil, List.cons_append, List.nil_append, List.getElem?_cons_zero, List.getElem?_cons_succ, List.set_cons_zero, List.set_cons_succ, Option.some.injEq, List.cons.injEq, V.int.injEq, V.bl.injEq, V.ref.injEq, V.ty.injEq, V.str.injEq, and_true, true_and, exists_eq_left, exists_eq_left', exists_and_left, exists_eq', exists_eq, reduceCtorEq, false_and, exists_false, or_false, false_or, decide_eq_true_eq, Bool.not_eq_true', Bool.not_eq_eq_eq_not, Bool.not_true, decide_eq_false_iff_not])
namespace Zk46
open PySem L2 PyProof.Rows
def top (i : Nat) : Stmt := PySem.Challenge.pw_allhits_k46_texts_of_no_sets.main.body.getD i (.Pass ⟨0, 0, 0, 0⟩)
structure Txt (mg : Str → Option Value) : Prop where
  n_isinstance : mg "isinstance" = none
  n_int : mg "int" = none
  n_bool : mg "bool" = none
  n_list : mg "list" = none
  n_len : mg "len" = none
  n_str : mg "str" = none
  n_sorted : mg "sorted" = none
  n_set : mg "set" = none
  n_range : mg "range" = none
  n_ValueError : mg "ValueError" = none
  c_MOST_SETS : ∃ t, mg "MOST_SETS" = some (.int 70 t)
  c_NO_NAMES : ∃ t, mg "NO_NAMES" = some (.str "-" t)
  c_NO_SETS : ∃ t, mg "NO_SETS" = some (.str "none" t)
section
variable {P : Program} {w : World} {K : PySem.W.Frag} {mg : Str → Option Value} {base : Heap}
abbrev s_is_whole : Stmt := top 8
theorem sc_is_whole : FnScope ["thing"] ["thing"] (defScope s_is_whole) := ⟨rfl, rfl, rfl, by decide +kernel, rfl, by decide +kernel, by decide +kernel⟩
/-- the classes of errors, as they stand in the text -/
structure Xt (K : PySem.W.Frag) (mg : Str → Option Value) (cX cH cF cD cN cT : Addr) : Prop where
  gX : mg "NoText" = some (.ref cX)
  gH : mg "HitError" = some (.ref cH)
  gF : mg "Full" = some (.ref cF)
  gD : mg "NoDeed" = some (.ref cD)
  gN : mg "NoFamily" = some (.ref cN)
  gT : mg "TooMany" = some (.ref cT)
  xX : PySem.W.excIn K cX [.type "ValueError", .type "Exception", .type "BaseException", .type "object"] "ValueError.__new__" = true
  xH : PySem.W.excIn K cH [.type "ValueError", .type "Exception", .type "BaseException", .type "object"] "ValueError.__new__" = true
  beH : PySem.W.subIn K (.ref cH) (.type "BaseException") = some true
  suH : PySem.W.subIn K (.ref cX) (.ref cH) = some true
  kit : XKit K cX
  i1 : PySem.W.kitOne K (.ref cX) (.type "ValueError") = some true
  i2 : PySem.W.kitAny K (.ref cX) ([cF, cD, cN, cT].map Value.ref) = some false
def spWhole : Sp := sp1 fun x H Q => ∃ t, kdOf H x = some t ∧ Q (.bl (subT t "int" && !subT t "bool")) H
theorem whole_ne {t : String} (h : t ≠ "int") : (subT t "int" && !subT t "bool") = false := by
  have e : (t == "int") = false := by simpa using h
  unfold subT
  rw [e]
  cases (t == "bool") <;> rfl
set_option maxHeartbeats 4000000 in
theorem ok_is_whole {f : Addr} {fd : FuncData} (F : Fun K "is_whole" "is_whole" s_is_whole f fd) (T : Txt mg)  : FnOk P w K mg base CX0 1 f fd ["thing"] spWhole := by
  have sc := sc_is_whole
  refine F.ok sc_is_whole (fun vs H Q E h => ?_) (fun cdv A outer s H vs Q E hr h => ?_)
  · obtain ⟨_, rfl, _⟩ := h
    rfl
  · obtain ⟨x0, rfl, h⟩ := h
    refine ⟨_, (pss_one (ps_ret (pe_and (pe_callB call_isinst (by rfl) T.n_isinstance PyProof.Rows.boot_isinstance (pa_cons (pv 0) (pa_cons (pe_bltn (v := .ty "int") (by rfl) T.n_int PyProof.Rows.boot_int rfl) pa_nil))) (pe_one (pe_not (pe_callB call_isinst (by rfl) T.n_isinstance PyProof.Rows.boot_isinstance (pa_cons (pv 0) (pa_cons (pe_bltn (v := .ty "bool") (by rfl) T.n_bool PyProof.Rows.boot_bool rfl) pa_nil)))))))), ?_⟩
    refine rdg (σ' := [some x0]) rfl ?_
    obtain ⟨t, hk, q⟩ := h
    walk_at "rd"
    refine ⟨x0, "int", ⟨rfl, rfl⟩, t, hk, by decide, ?_⟩
    split
    · rename_i h1
      refine ⟨x0, "bool", ⟨rfl, rfl⟩, t, hk, by decide, ?_⟩
      rw [h1, Bool.true_and] at q
      exact q
    · rename_i h1
      have h2 : subT t "int" = false := by simpa using h1
      rw [h2, Bool.false_and] at q
      exact q
abbrev s_is_set : Stmt := top 9
theorem sc_is_set : FnScope ["many", "thing"] ["many", "thing"] (defScope s_is_set) := ⟨rfl, rfl, rfl, by decide +kernel, rfl, by decide +kernel, by decide +kernel⟩
def spSet : Sp := sp2 fun m x H Q => (∃ (k : Nat) (i : Int), m = .int k ∧ x = .int i ∧ k ≤ 8 ∧ Q (.bl (decide (0 ≤ i) && decide (i < (2 ^ k : Nat)))) H) ∨ ∃ t, kdOf H x = some t ∧ t ≠ "int" ∧ Q (.bl false) H
set_option maxHeartbeats 4000000 in
theorem ok_is_set {f : Addr} {fd : FuncData} (F : Fun K "is_set" "is_set" s_is_set f fd) (T : Txt mg) {f_is_whole : Addr} {fd_is_whole : FuncData} (C_is_whole : Cal P w K mg base "is_whole" 1 ["thing"] spWhole f_is_whole fd_is_whole) : FnOk P w K mg base CX0 2 f fd ["many", "thing"] spSet := by
  have sc := sc_is_set
  refine F.ok sc_is_set (fun vs H Q E h => ?_) (fun cdv A outer s H vs Q E hr h => ?_)
  · obtain ⟨_, _, rfl, _⟩ := h
    rfl
  · obtain ⟨x0, x1, rfl, h⟩ := h
    refine ⟨_, (pss_one (ps_ret (pe_and (pe_cal C_is_whole hr (by decide) (by rfl) (pa_cons (pv 1) pa_nil)) (pe_one (pe_chain op_le op_lt pe_int (pv 1) (pe_op op_shl pe_int (pv 0))))))), ?_⟩
    refine rdg (σ' := [some x0, some x1]) rfl ?_
    walk_at "rd"
    rcases h with ⟨k, i, rfl, rfl, hk8, q⟩ | ⟨t, hk, hne, q⟩
    · refine ⟨_, rfl, "int", rfl, true, rfl, iteT ?_⟩
      walk_at "rd"
      split
      · rename_i h0
        rw [decide_eq_true h0, Bool.true_and] at q
        refine ⟨cpow_of (by omega) (by omega) (by decide) (by decide), ?_⟩
        rw [shl_one]
        exact q
      · rename_i h0
        rw [decide_eq_false h0, Bool.false_and] at q
        exact q
    · exact ⟨_, rfl, t, hk, false, by rw [whole_ne hne], iteF q⟩
abbrev s_set_of : Stmt := top 10
theorem sc_set_of : FnScope ["names", "one", "k"] ["names"] (defScope s_set_of) := ⟨rfl, rfl, rfl, by decide +kernel, rfl, by decide +kernel, by decide +kernel⟩
def spSetOf (K : PySem.W.Frag) : Sp := sp1 fun x H Q => ∃ p fs, x = .ref p ∧ SqL K H p (nV fs) ∧ (∀ k ∈ fs, k < 8) ∧ Q (.int (Fam.ofN fs : Nat)) H
theorem take_snoc {fs : List Nat} {i a : Nat} (h : fs[i]? = some a) : fs.take (i + 1) = fs.take i ++ [a] := by rw [List.take_add_one, h]; rfl
theorem ofN_snoc (L : List Nat) (a : Nat) : Fam.ofN (L ++ [a]) = Fam.ofN L ||| 2 ^ a := by unfold Fam.ofN; rw [List.foldl_append]; rfl
set_option maxHeartbeats 4000000 in
theorem ok_set_of {f : Addr} {fd : FuncData} (F : Fun K "set_of" "set_of" s_set_of f fd) (T : Txt mg)  : FnOk P w K mg base CX0 1 f fd ["names"] (spSetOf K) := by
  have sc := sc_set_of
  refine F.ok sc_set_of (fun vs H Q E h => ?_) (fun cdv A outer s H vs Q E hr h => ?_)
  · obtain ⟨_, rfl, _⟩ := h
    rfl
  · obtain ⟨x0, rfl, h⟩ := h
    refine ⟨_, (pss_cons (ps_set (i := 1) sc.nd rfl (Or.inl rfl) pe_int)
      (pss_cons (ps_for PassesOwn.never rfl (pi_list (pv 0)) (pg_name (i := 2) sc.nd rfl (Or.inl rfl)) (pss_one (ps_set (i := 1) sc.nd rfl (Or.inl rfl) (pe_op op_or (pv 1) (pe_op op_shl pe_int (pv 2))))))
      (pss_one (ps_ret (pv 1))))), ?_⟩
    refine rdg (σ' := [some x0, none, none]) rfl ?_
    obtain ⟨p, fs, rfl, hq, hb, q⟩ := h
    walk_at "rd"
    refine ⟨⟨_, hq⟩, loopL (xs := nV fs) (fun i σ H' => ∃ v, σ = [some (.ref p), some (.int (Fam.ofN (fs.take i) : Nat)), v] ∧ H' = H) ⟨none, rfl, rfl⟩ (fun i σ H' _ ⟨v, _, e⟩ => e ▸ hq) ?_ ?_⟩
    · rintro i x σ H' hx ⟨v, rfl, rfl⟩
      obtain ⟨a, ha, rfl⟩ := nV_get hx
      have h8 := hb a (List.mem_of_getElem? ha)
      walk_at "rd"
      refine ⟨cpow_of (by omega) (by omega) (by decide) (by decide), ?_⟩
      rw [take_snoc ha, ofN_snoc, ← or_nat, shl_one]
    · rintro σ H' ⟨v, rfl, rfl⟩
      rw [nV_len, List.take_length]
      exact ⟨_, rfl, q⟩
abbrev s_is_family : Stmt := top 13
theorem sc_is_family : FnScope ["many", "thing", "before", "one"] ["many", "thing"] (defScope s_is_family) := ⟨rfl, rfl, rfl, by decide +kernel, rfl, by decide +kernel, by decide +kernel⟩
/-- how far the items are sets that rise, from b on -/
def famP (m : Nat) : Int → List V → Bool
  | _, [] => true
  | b, x :: r => match x with | .int i => decide (0 ≤ i) && decide (i < (2 ^ m : Nat)) && decide (b < i) && famP m i r | _ => false
/-- the items are of kinds that are told -/
def Kd (H : Hp) (xs : List V) : Prop := ∀ x ∈ xs, ∃ t, kdOf H x = some t
theorem kd_int {H : Hp} {x : V} {t : String} (h : kdOf H x = some t) (hn : ∀ i, x ≠ .int i) : t ≠ "int" := by
  intro e
  subst e
  cases x with
  | int i => exact hn i rfl
  | non => exact absurd (Option.some.inj h) (by decide)
  | bl b => exact absurd (Option.some.inj h) (by decide)
  | str z => exact absurd (Option.some.inj h) (by decide)
  | byt z => cases h
  | flt z => cases h
  | ty z => cases h
  | ref a =>
    unfold kdOf at h
    dsimp only at h
    split at h <;> first | exact absurd (Option.some.inj h) (by decide) | cases h
theorem famP_no {m : Nat} {b : Int} {x : V} {r : List V} (hn : ∀ i, x ≠ .int i) : famP m b (x :: r) = false := by
  cases x with
  | int i => exact absurd rfl (hn i)
  | _ => rfl
theorem sub_list {t : String} (h : t ≠ "list") : subT t "list" = false := by
  unfold subT
  rw [show (t == "list") = false from beq_eq_false_iff_ne.mpr h]
  cases (t == "bool") <;> rfl
def spIsFam (K : PySem.W.Frag) : Sp := sp2 fun x y H Q => ∃ m : Nat, x = .int m ∧ m ≤ 8 ∧ ((∃ (p : Addr) (xs : List V), y = .ref p ∧ H p = some (.lst xs) ∧ xs.length ≤ 1000 ∧ Kd H xs ∧ Q (.bl (decide (xs.length ≤ 70) && famP m (-1) xs)) H) ∨ ∃ t, kdOf H y = some t ∧ t ≠ "list" ∧ Q (.bl false) H)
set_option maxHeartbeats 4000000 in
theorem ok_is_family {f : Addr} {fd : FuncData} (F : Fun K "is_family" "is_family" s_is_family f fd) (T : Txt mg) {f_is_set : Addr} {fd_is_set : FuncData} (C_is_set : Cal P w K mg base "is_set" 2 ["many", "thing"] spSet f_is_set fd_is_set) : FnOk P w K mg base CX0 3 f fd ["many", "thing"] (spIsFam K) := by
  have sc := sc_is_family
  refine F.ok sc_is_family (fun vs H Q E h => ?_) (fun cdv A outer s H vs Q E hr h => ?_)
  · obtain ⟨_, _, rfl, _⟩ := h
    rfl
  · obtain ⟨x0, x1, rfl, h⟩ := h
    refine ⟨_, (pss_cons (ps_if (PW.pt (pw_or (pt_not (pt_val (pe_callB call_isinst (by rfl) T.n_isinstance PyProof.Rows.boot_isinstance (pa_cons (pv 1) (pa_cons (pe_bltn (v := .ty "list") (by rfl) T.n_list PyProof.Rows.boot_list rfl) pa_nil))))) (pw_or1 (pt_cmpR op_gt (pe_callB (call_lenK (K := K) rfl) (by rfl) T.n_len PySem.boot_len (pa_cons (pv 1) pa_nil)) (pe_const T.c_MOST_SETS (by rfl)) (nomark _))))) (pss_one (ps_ret pe_bl)) pss_nil)
      (pss_cons (ps_set (i := 2) sc.nd rfl (Or.inl rfl) (pe_un un_neg pe_int))
      (pss_cons (ps_for PassesOwn.never rfl (pi_list (pv 1)) (pg_name (i := 3) sc.nd rfl (Or.inl rfl)) (pss_cons (ps_if (PW.pt (pw_or (pt_not (pt_val (pe_cal C_is_set hr (by decide) (by rfl) (pa_cons (pv 0) (pa_cons (pv 3) pa_nil))))) (pw_or1 (pt_cmpR op_le (pv 3) (pv 2) (nomark _))))) (pss_one (ps_ret pe_bl)) pss_nil)
      (pss_one (ps_set (i := 2) sc.nd rfl (Or.inl rfl) (pv 3)))))
      (pss_one (ps_ret pe_bl))))), ?_⟩
    refine rdg (σ' := [some x0, some x1, none, none]) rfl ?_
    obtain ⟨m, rfl, hm, h⟩ := h
    walk_at "rd"
    rcases h with ⟨p, xs, rfl, f1, hl, kd, q⟩ | ⟨t, hk, hne, q⟩
    · refine ⟨_, "list", ⟨rfl, rfl⟩, "list", kd_lst f1, by decide, ?_⟩
      rw [if_neg (by decide)]
      refine ⟨p, rfl, _, .inl (SqL.of f1), ?_⟩
      (try walk_at "rd")
      by_cases h70 : xs.length ≤ 70
      · rw [if_neg (by omega)]
        rw [decide_eq_true h70, Bool.true_and] at q
        refine ⟨⟨_, SqL.of f1⟩, loopLn (xs := xs) (fun i σ H' => ∃ (b : Int) (v : Option V), σ = [some (.int m), some (.ref p), some (.int b), v] ∧ H' = H ∧ famP m (-1) xs = famP m b (xs.drop i)) ⟨-1, none, rfl, rfl, rfl⟩ (fun i σ H' _ ⟨_, _, _, e, _⟩ => e ▸ SqL.of f1) ?_ ?_⟩
        · rintro i x σ H' hx ⟨b, v, rfl, rfl, ef⟩ N hN
          have hi := List.getElem?_eq_some_iff.mp hx
          have ed : xs.drop i = x :: xs.drop (i + 1) := by rw [List.drop_eq_getElem_cons hi.1, hi.2]
          rw [ed] at ef
          obtain ⟨t, ht⟩ := kd x (List.mem_of_getElem? hx)
          (try walk_at "rd")
          by_cases hz : ∃ z, x = .int z
          · obtain ⟨z, rfl⟩ := hz
            refine ⟨_, _, rfl, .inl ⟨m, z, rfl, rfl, hm, ?_⟩⟩
            have ef' : famP m (-1) xs = (decide (0 ≤ z) && decide (z < (2 ^ m : Nat)) && decide (b < z) && famP m z (xs.drop (i + 1))) := ef
            (try walk_at "rd")
            by_cases hs : (decide (0 ≤ z) && decide (z < (2 ^ m : Nat))) = false
            · rw [if_pos hs]
              rw [ef', hs, Bool.false_and, Bool.false_and] at q
              exact q
            · rw [if_neg hs]
              rw [(Bool.not_eq_false _).mp hs, Bool.true_and] at ef'
              by_cases hb : b < z
              · rw [if_neg (by omega)]
                rw [decide_eq_true hb, Bool.true_and] at ef'
                exact hN _ _ ⟨z, _, rfl, rfl, ef'⟩
              · rw [if_pos (by omega)]
                rw [ef', decide_eq_false hb, Bool.false_and] at q
                exact q
          · have hz' : ∀ i, x ≠ .int i := fun i e => hz ⟨i, e⟩
            refine ⟨_, _, rfl, .inr ⟨t, ht, kd_int ht hz', ?_⟩⟩
            (try walk_at "rd")
            rw [ef, famP_no hz'] at q
            exact q
        · rintro σ H' ⟨b, v, rfl, rfl, ef⟩
          rw [List.drop_length] at ef
          rw [ef] at q
          (try walk_at "rd")
          exact q
      · rw [if_pos (by omega)]
        rw [decide_eq_false h70, Bool.false_and] at q
        exact q
    · refine ⟨_, "list", ⟨rfl, rfl⟩, t, hk, by decide, ?_⟩
      rw [sub_list hne]
      exact q
abbrev s_parted : Stmt := top 20
theorem sc_parted : FnScope ["text", "sign"] ["text", "sign"] (defScope s_parted) := ⟨rfl, rfl, rfl, by decide +kernel, rfl, by decide +kernel, by decide +kernel⟩
def spParted (cX : Addr) : Sp := sp2x fun x y H Q E => (∃ z s : Str, x = .str z ∧ y = .str s ∧ (s.length == 0) = false ∧ z.length ≤ 10000 ∧ ∀ p H', H p = none → Same H H' → H' p = some (.lst (sV (_root_.PySem.Txt.split z s))) → Q (.ref p) H') ∨ ∃ t, kdOf H x = some t ∧ t ≠ "str" ∧ E (.ref cX) none H
set_option maxHeartbeats 4000000 in
theorem ok_parted {f : Addr} {fd : FuncData} (F : Fun K "parted" "parted" s_parted f fd) (T : Txt mg) {cX cH cF cD cN cT : Addr} (Z : Xt K mg cX cH cF cD cN cT)  : FnOk P w K mg base (CX1 P w) 1 f fd ["text", "sign"] (spParted cX) := by
  have sc := sc_parted
  refine F.okX sc_parted (fun vs H Q E h => ?_) (fun cdv A outer s H vs Q E hr h => ?_)
  · obtain ⟨_, _, rfl, _⟩ := h
    rfl
  · obtain ⟨x0, x1, rfl, h⟩ := h
    refine ⟨_, (pss_cons (ps_if (pt_not (pt_val (pe_callB call_isinst (by rfl) T.n_isinstance PyProof.Rows.boot_isinstance (pa_cons (pv 0) (pa_cons (pe_bltn (v := .ty "str") (by rfl) T.n_str PyProof.Rows.boot_str rfl) pa_nil))))) (pss_one (ps_raise (by rfl) Z.gX Z.xX PySem.F.excBase_ValueError rfl throws_cx pe_str)) pss_nil)
      (pss_one (ps_ret (pe_bm PySem.F.plainAttrs_str PySem.F.slot_str_split PySem.F.type_str_split mt_split (pv 0) (pa_cons (pv 1) pa_nil))))), ?_⟩
    refine rdg (σ' := [some x0, some x1]) rfl ?_
    rcases h with ⟨z, s, rfl, rfl, hs, hz, q⟩ | ⟨t, hk, hne, q⟩
    · walk_at "rd"
      refine ⟨_, _, ⟨rfl, rfl⟩, "str", rfl, by decide, ?_⟩
      rw [if_neg (by decide)]
      exact ⟨rfl, z, s, rfl, rfl, hs, by omega, fun l hl => q l _ hl (Same.new hl) upd_same⟩
    · walk_at "rd"
      refine ⟨_, "str", ⟨rfl, rfl⟩, t, hk, by decide, ?_⟩
      rw [sub_str hne, if_pos rfl]
      exact q
abbrev s_read_name : Stmt := top 19
theorem sc_read_name : FnScope ["words", "word"] ["words", "word"] (defScope s_read_name) := ⟨rfl, rfl, rfl, by decide +kernel, rfl, by decide +kernel, by decide +kernel⟩
def spReadName (K : PySem.W.Frag) (cX : Addr) : Sp := sp2x fun x y H Q E => ∃ (p : Addr) (ws : List Str) (w : Str), x = .ref p ∧ H p = some (.lst (sV ws)) ∧ ws.length ≤ 8 ∧ y = .str w ∧ (w ∈ ws → Q (.int (ws.idxOf w : Nat)) H) ∧ (w ∉ ws → E (.ref cX) none H)
set_option maxHeartbeats 4000000 in
theorem ok_read_name {f : Addr} {fd : FuncData} (F : Fun K "read_name" "read_name" s_read_name f fd) (T : Txt mg) {cX cH cF cD cN cT : Addr} (Z : Xt K mg cX cH cF cD cN cT)  : FnOk P w K mg base (CX1 P w) 1 f fd ["words", "word"] (spReadName K cX) := by
  have sc := sc_read_name
  refine F.okX sc_read_name (fun vs H Q E h => ?_) (fun cdv A outer s H vs Q E hr h => ?_)
  · obtain ⟨_, _, rfl, _⟩ := h
    rfl
  · obtain ⟨x0, x1, rfl, h⟩ := h
    refine ⟨_, (pss_cons (ps_if (pt_cmpR (op_notInK (K := K) rfl) (pv 1) (pv 0) (by with_unfolding_all rfl)) (pss_one (ps_raise (by rfl) Z.gX Z.xX PySem.F.excBase_ValueError rfl throws_cx pe_str)) pss_nil)
      (pss_one (ps_ret (pe_bmK (K := K) rfl PySem.F.plainAttrs_list PySem.F.slot_list_index PySem.F.type_list_index mt_indexS (pv 0) (pa_cons (pv 1) pa_nil))))), ?_⟩
    refine rdg (σ' := [some x0, some x1]) rfl ?_
    obtain ⟨p, ws, w, rfl, f1, hl, rfl, q1, q2⟩ := h
    walk_at "rd"
    by_cases hw : w ∈ ws
    · refine ⟨_, .inl (SqL.of f1), rfl, flat_s _, false, by rw [inV_s]; simpa using hw, ?_⟩
      rw [if_neg (by decide)]
      exact ⟨.inl ⟨rfl, _, SqL.of f1⟩, p, ws, w, rfl, rfl, f1, hw, by omega, q1 hw⟩
    · refine ⟨_, .inl (SqL.of f1), rfl, flat_s _, true, by rw [inV_s]; simpa using hw, ?_⟩
      rw [if_pos rfl]
      exact q2 hw
abbrev s_read_set : Stmt := top 17
theorem sc_read_set : FnScope ["words", "text", "parts", "names"] ["words", "text"] (defScope s_read_set) := ⟨rfl, rfl, rfl, by decide +kernel, rfl, by decide +kernel, by decide +kernel⟩
def spReadSet (K : PySem.W.Frag) (cX : Addr) : Sp := sp2x fun x y H Q E => ∃ (p : Addr) (ws : List Str), x = .ref p ∧ H p = some (.lst (sV ws)) ∧ Tx.Wds ws ∧ ((∃ z : Str, y = .str z ∧ z.length ≤ 10000 ∧ (_root_.PySem.Txt.split z "+").length ≤ 1000 ∧ (∀ a, Tx.rS ws z = some a → ∀ H', Same H H' → Q (.int (a : Nat)) H') ∧ (Tx.rS ws z = none → ∀ H', Same H H' → E (.ref cX) none H')) ∨ ∃ t, kdOf H y = some t ∧ t ≠ "str" ∧ E (.ref cX) none H)
set_option maxHeartbeats 4000000 in
theorem ok_read_set {f : Addr} {fd : FuncData} (F : Fun K "read_set" "read_set" s_read_set f fd) (T : Txt mg) {cX cH cF cD cN cT : Addr} (Z : Xt K mg cX cH cF cD cN cT) {f_parted : Addr} {fd_parted : FuncData} (C_parted : CalX P w K mg base "parted" 1 ["text", "sign"] (spParted cX) f_parted fd_parted) {f_set_of : Addr} {fd_set_of : FuncData} (C_set_of : Cal P w K mg base "set_of" 1 ["names"] (spSetOf K) f_set_of fd_set_of) {f_read_name : Addr} {fd_read_name : FuncData} (C_read_name : CalX P w K mg base "read_name" 1 ["words", "word"] (spReadName K cX) f_read_name fd_read_name) : FnOk P w K mg base (CX1 P w) 2 f fd ["words", "text"] (spReadSet K cX) := by
  have sc := sc_read_set
  refine F.okX sc_read_set (fun vs H Q E h => ?_) (fun cdv A outer s H vs Q E hr h => ?_)
  · obtain ⟨_, _, rfl, _⟩ := h
    rfl
  · obtain ⟨x0, x1, rfl, h⟩ := h
    refine ⟨_, (pss_cons (ps_set (i := 2) sc.nd rfl (Or.inl rfl) (pe_calX C_parted hr (by decide) (by rfl) pass_cx (pa_cons (pv 1) (pa_cons pe_str pa_nil))))
      (pss_cons (ps_if (pt_cmpR (op_eqK (K := K) rfl hr.units0) (pv 2) (pe_lst (pa_cons (pe_constS T.c_NO_NAMES (by rfl)) pa_nil)) (nomark _)) (pss_one (ps_ret pe_int)) pss_nil)
      (pss_cons (ps_compX (i := 3) sc.nd rfl rfl (by rfl) (N := ["word", "words"]) (nt := 1) (caps := [0]) comp_ok rfl (pi_list (pv 2)) (fun _ _ _ _ _ => (pg_name (i := 0) (show List.Nodup (α := Str) ["word", "words"] from by decide +kernel) rfl (Or.inl rfl))) gk_name (fun _ _ _ _ _ => pts_nil) (fun _ _ _ _ _ _ _ tk => (pe_calX C_read_name hr (by decide) (by rfl) tk.passes (pa_cons (pv 1) (pa_cons (pv 0) pa_nil)))) takes_cx rfl rfl)
      (pss_cons (ps_if (pt_cmpR (op_neK (K := K) rfl hr.units0) (pv 3) (pe_callB (call_sortX (P := P) (w := w) (K := K) rfl rfl rfl rfl) (by rfl) T.n_sorted PyProof.Rows.boot_sorted (pa_cons (pe_callTy (call_setK (P := P) (w := w) (K := K) rfl rfl rfl rfl) (by rfl) T.n_set PyProof.Rows.boot_set (pa_cons (pv 3) pa_nil)) pa_nil)) (nomark _)) (pss_one (ps_raise (by rfl) Z.gX Z.xX PySem.F.excBase_ValueError rfl throws_cx pe_str)) pss_nil)
      (pss_one (ps_ret (pe_cal C_set_of hr (by decide) (by rfl) (pa_cons (pv 3) pa_nil)))))))), ?_⟩
    refine rdg (σ' := [some x0, some x1, none, none]) rfl ?_
    obtain ⟨p, ws, rfl, f1, hw, ⟨z, rfl, hz, hn, q1, q2⟩ | ⟨t, hk, hne, q⟩⟩ := h
    rotate_left
    · walk_at "rd"
      exact ⟨_, _, rfl, .inr ⟨t, hk, hne, q⟩⟩
    walk_at "rd"
    refine ⟨_, _, rfl, .inl ⟨_, _, rfl, rfl, by rw [Tx.lit_plus]; rfl, hz, fun p1 G1 hp1 s1 a1 => ?_⟩⟩
    generalize eP : _root_.PySem.Txt.split z "+" = P at a1 hn
    (try walk_at "rd")
    refine ⟨small5 (by simp), fun p2 hp2 => ?_⟩
    generalize g2 : upd G1 p2 _ = G2
    have a2 : G2 p2 = some (.lst (sV [("-" : Str)])) := new_at g2
    have s2 := new_sm g2 hp2
    have a1 := s2 _ _ a1
    have s12 := s1.trans s2
    refine eqX_l (SqL.of a1) (SqL.of a2) (flat_s _) (flat_s _) ?_
    rw [eqVs_s]
    by_cases h0 : P = [("-" : Str)]
    · refine ⟨true, by simpa using h0, iteT ?_⟩
      exact q1 0 (by unfold Tx.rS; rw [eP, if_pos h0]) _ s12
    refine ⟨false, by simpa using h0, iteF ?_⟩
    have lz : (sV P).length = P.length := sV_len _
    refine ⟨⟨_, SqL.of a1⟩, compLg (xs := sV P) (fun i ys H3 => Same G2 H3 ∧ ys = nV ((P.take i).map fun w => ws.idxOf w) ∧ ∀ w ∈ P.take i, w ∈ ws) ⟨Same.refl _, rfl, fun w hw => (by cases hw)⟩ (by rw [lz]; exact small5 (by omega)) (fun i ys H3 hi ⟨s, e, _⟩ => ⟨SqL.of (s _ _ a1), by rw [e, nV_len, List.length_map, List.length_take]; omega⟩) (fun i x ys H3 hx ⟨s3, e3, m3⟩ R R' r1 r2 => ?_) fun ys H3 ⟨s3, e3, m3⟩ p3 hp3 => ?_⟩
    · rw [List.getElem?_map] at hx
      cases eb : P[i]? with
      | none => rw [eb] at hx; cases hx
      | some w =>
        rw [eb] at hx
        cases hx
        have mw := List.mem_of_getElem? eb
        (try walk_at "rd")
        refine ⟨_, _, rfl, p, ws, w, rfl, s3 _ _ (s12 _ _ f1), hw.few, rfl, fun hm => r1 _ _ ⟨s3, ?_, ?_⟩, fun hm => q2 ?_ _ (s12.trans s3)⟩
        · rw [e3, List.take_add_one, eb]
          simp [nV, nI]
        · rw [List.take_add_one, eb]
          intro w' hw'
          rcases List.mem_append.mp hw' with x | x
          · exact m3 w' x
          · have e : w' = w := by simpa using x
            rw [e]
            exact hm
        · unfold Tx.rS
          rw [eP, if_neg h0, if_neg fun y => hm (y.1 w mw)]
    rw [lz, List.take_length] at e3 m3
    subst e3
    generalize g3 : upd H3 p3 _ = G3
    have a3 := new_at g3
    have s3' := (s12.trans s3).trans (new_sm g3 hp3)
    refine ⟨p3, _, rfl, SqL.of a3, by rw [nI, List.length_map, List.length_map]; omega, fun p4 hp4 => ?_⟩
    generalize g4 : upd G3 p4 _ = G4
    have a4 := new_at g4
    have a3 := new_sm g4 hp4 _ _ a3
    have s4 := s3'.trans (new_sm g4 hp4)
    refine ⟨p4, _, rfl, .inr a4, dedup_idx hw.few m3 (by decide), fun p5 ms hp5 m1 m2 => ?_⟩
    rw [sorted_sd m1 m2]
    generalize g5 : upd G4 p5 _ = G5
    have a5 := new_at g5
    have a3 := new_sm g5 hp5 _ _ a3
    have s5 := s4.trans (new_sm g5 hp5)
    refine neX_l (SqL.of a3) (SqL.of a5) (flat_n _) (flat_n _) ?_
    rw [eqVs_n]
    by_cases hr : (P.map fun w => ws.idxOf w).Pairwise (· < ·)
    · rw [sd_self hr] at a5 ⊢
      refine ⟨false, by simp, iteF ?_⟩
      refine ⟨_, rfl, p3, _, rfl, SqL.of a3, fun k hk => ?_, ?_⟩
      · obtain ⟨w, hw', rfl⟩ := List.mem_map.mp hk
        have := List.idxOf_lt_length_of_mem (m3 w hw')
        have := hw.few
        omega
      exact q1 _ (by unfold Tx.rS; rw [eP, if_neg h0, if_pos ⟨m3, hr⟩]) _ s5
    · have ne : (P.map fun w => ws.idxOf w) ≠ sd (P.map fun w => ws.idxOf w) := fun e => hr (by rw [e]; exact sd_rise _)
      refine ⟨true, by rw [decide_eq_false ne]; rfl, iteT ?_⟩
      exact q2 (by unfold Tx.rS; rw [eP, if_neg h0, if_neg (fun z => hr z.2)]) _ s5
abbrev s_read_family : Stmt := top 18
theorem sc_read_family : FnScope ["words", "text", "parts", "family"] ["words", "text"] (defScope s_read_family) := ⟨rfl, rfl, rfl, by decide +kernel, rfl, by decide +kernel, by decide +kernel⟩
theorem famP_iff {m : Nat} : ∀ (fs : List Nat) (b : Int), famP m b (nV fs) = true ↔ (∀ x ∈ fs, b < (x : Int)) ∧ fs.Pairwise (· < ·) ∧ ∀ x ∈ fs, x < 2 ^ m
  | [], b => ⟨fun _ => ⟨fun x hx => (by cases hx), List.Pairwise.nil, fun x hx => (by cases hx)⟩, fun _ => rfl⟩
  | x :: r, b => by
    have ih := famP_iff (m := m) r (x : Int)
    show (decide (0 ≤ (x : Int)) && decide ((x : Int) < (2 ^ m : Nat)) && decide (b < (x : Int)) && famP m (x : Int) (nV r)) = true ↔ _
    rw [Bool.and_eq_true, Bool.and_eq_true, Bool.and_eq_true, decide_eq_true_eq, decide_eq_true_eq, decide_eq_true_eq, ih]
    constructor
    · rintro ⟨⟨⟨_, h1⟩, h2⟩, h3, h4, h5⟩
      refine ⟨fun y hy => ?_, List.pairwise_cons.mpr ⟨fun y hy => ?_, h4⟩, fun y hy => ?_⟩
      · rcases List.mem_cons.mp hy with rfl | z
        · exact h2
        · have := h3 y z
          omega
      · have := h3 y hy
        omega
      · rcases List.mem_cons.mp hy with rfl | z
        · omega
        · exact h5 y z
    · rintro ⟨h1, h2, h3⟩
      have h4 := List.pairwise_cons.mp h2
      have h5 := h3 x List.mem_cons_self
      exact ⟨⟨⟨by omega, by omega⟩, h1 x List.mem_cons_self⟩, fun y hy => by have := h4.1 y hy; omega, h4.2, fun y hy => h3 y (List.mem_cons_of_mem _ hy)⟩
def spReadFam (K : PySem.W.Frag) (cX : Addr) : Sp := sp2x fun x y H Q E => ∃ (p : Addr) (ws : List Str), x = .ref p ∧ H p = some (.lst (sV ws)) ∧ Tx.Wds ws ∧ ((∃ z : Str, y = .str z ∧ z.length ≤ 10000 ∧ (_root_.PySem.Txt.split z " ").length ≤ 1000 ∧ (∀ q ∈ _root_.PySem.Txt.split z " ", (_root_.PySem.Txt.split q "+").length ≤ 1000) ∧ (∀ fs, Tx.rF ws z = some fs → ∀ p' H', H p' = none → Same H H' → H' p' = some (.lst (nV fs)) → Q (.ref p') H') ∧ (Tx.rF ws z = none → ∀ H', Same H H' → E (.ref cX) none H')) ∨ ∃ t, kdOf H y = some t ∧ t ≠ "str" ∧ E (.ref cX) none H)
set_option maxHeartbeats 4000000 in
theorem ok_read_family {f : Addr} {fd : FuncData} (F : Fun K "read_family" "read_family" s_read_family f fd) (T : Txt mg) {cX cH cF cD cN cT : Addr} (Z : Xt K mg cX cH cF cD cN cT) {f_parted : Addr} {fd_parted : FuncData} (C_parted : CalX P w K mg base "parted" 1 ["text", "sign"] (spParted cX) f_parted fd_parted) {f_read_set : Addr} {fd_read_set : FuncData} (C_read_set : CalX P w K mg base "read_set" 2 ["words", "text"] (spReadSet K cX) f_read_set fd_read_set) {f_is_family : Addr} {fd_is_family : FuncData} (C_is_family : Cal P w K mg base "is_family" 3 ["many", "thing"] (spIsFam K) f_is_family fd_is_family) : FnOk P w K mg base (CX1 P w) 4 f fd ["words", "text"] (spReadFam K cX) := by
  have sc := sc_read_family
  refine F.okX sc_read_family (fun vs H Q E h => ?_) (fun cdv A outer s H vs Q E hr h => ?_)
  · obtain ⟨_, _, rfl, _⟩ := h
    rfl
  · obtain ⟨x0, x1, rfl, h⟩ := h
    refine ⟨_, (pss_cons (ps_set (i := 2) sc.nd rfl (Or.inl rfl) (pe_calX C_parted hr (by decide) (by rfl) pass_cx (pa_cons (pv 1) (pa_cons pe_str pa_nil))))
      (pss_cons (ps_if (pt_cmpR (op_eqK (K := K) rfl hr.units0) (pv 2) (pe_lst (pa_cons (pe_constS T.c_NO_SETS (by rfl)) pa_nil)) (nomark _)) (pss_one (ps_ret (pe_lst pa_nil))) pss_nil)
      (pss_cons (ps_compX (i := 3) sc.nd rfl rfl (by rfl) (N := ["part", "words"]) (nt := 1) (caps := [0]) comp_ok rfl (pi_list (pv 2)) (fun _ _ _ _ _ => (pg_name (i := 0) (show List.Nodup (α := Str) ["part", "words"] from by decide +kernel) rfl (Or.inl rfl))) gk_name (fun _ _ _ _ _ => pts_nil) (fun _ _ _ _ _ _ _ tk => (pe_calX C_read_set hr (by decide) (by rfl) tk.passes (pa_cons (pv 1) (pa_cons (pv 0) pa_nil)))) takes_cx rfl rfl)
      (pss_cons (ps_if (pt_not (pt_val (pe_cal C_is_family hr (by decide) (by rfl) (pa_cons (pe_callB (call_lenK (K := K) rfl) (by rfl) T.n_len PySem.boot_len (pa_cons (pv 0) pa_nil)) (pa_cons (pv 3) pa_nil))))) (pss_one (ps_raise (by rfl) Z.gX Z.xX PySem.F.excBase_ValueError rfl throws_cx pe_str)) pss_nil)
      (pss_one (ps_ret (pv 3))))))), ?_⟩
    refine rdg (σ' := [some x0, some x1, none, none]) rfl ?_
    obtain ⟨p, ws, rfl, f1, hw, ⟨z, rfl, hz, hn, hP, q1, q2⟩ | ⟨t, hk, hne, q⟩⟩ := h
    rotate_left
    · walk_at "rd"
      exact ⟨_, _, rfl, .inr ⟨t, hk, hne, q⟩⟩
    walk_at "rd"
    have pl := Tx.part_len z 32
    rw [← Tx.lit_space] at pl
    refine ⟨_, _, rfl, .inl ⟨_, _, rfl, rfl, by rw [Tx.lit_space]; rfl, hz, fun p1 G1 hp1 s1 a1 => ?_⟩⟩
    generalize eP : _root_.PySem.Txt.split z " " = P at a1 hn hP pl
    (try walk_at "rd")
    refine ⟨small5 (by simp), fun p2 hp2 => ?_⟩
    generalize g2 : upd G1 p2 _ = G2
    have a2 : G2 p2 = some (.lst (sV [("none" : Str)])) := new_at g2
    have s2 := new_sm g2 hp2
    have a1 := s2 _ _ a1
    have s12 := s1.trans s2
    refine eqX_l (SqL.of a1) (SqL.of a2) (flat_s _) (flat_s _) ?_
    rw [eqVs_s]
    by_cases h0 : P = [("none" : Str)]
    · refine ⟨true, by simpa using h0, iteT ⟨small5 (by simp), fun p3 hp3 => ?_⟩⟩
      exact q1 [] (by unfold Tx.rF; rw [eP, if_pos h0]) _ _ (old_none s12 hp3) (s12.trans (Same.new hp3)) upd_same
    refine ⟨false, by simpa using h0, iteF ?_⟩
    have lz : (sV P).length = P.length := sV_len _
    refine ⟨⟨_, SqL.of a1⟩, compLg (xs := sV P) (fun i ys H3 => Same G2 H3 ∧ ys = nV ((P.take i).map fun w => (Tx.rS ws w).getD 0) ∧ ∀ w ∈ P.take i, (Tx.rS ws w).isSome = true) ⟨Same.refl _, rfl, fun w hw => (by cases hw)⟩ (by rw [lz]; exact small5 (by omega)) (fun i ys H3 hi ⟨s, e, _⟩ => ⟨SqL.of (s _ _ a1), by rw [e, nV_len, List.length_map, List.length_take]; omega⟩) (fun i x ys H3 hx ⟨s3, e3, m3⟩ R R' r1 r2 => ?_) fun ys H3 ⟨s3, e3, m3⟩ p3 hp3 => ?_⟩
    · rw [List.getElem?_map] at hx
      cases eb : P[i]? with
      | none => rw [eb] at hx; cases hx
      | some w =>
        rw [eb] at hx
        cases hx
        have mw := List.mem_of_getElem? eb
        (try walk_at "rd")
        refine ⟨_, _, rfl, p, ws, rfl, s3 _ _ (s12 _ _ f1), hw, .inl ⟨w, rfl, Nat.le_trans (pl w mw) hz, hP w mw, fun a ha H4 s4 => r1 _ _ ⟨s3.trans s4, ?_, ?_⟩, fun hm H4 s4 => q2 ?_ _ ((s12.trans s3).trans s4)⟩⟩
        · rw [e3, List.take_add_one, eb]
          simp [nV, nI, ha]
        · rw [List.take_add_one, eb]
          intro w' hw'
          rcases List.mem_append.mp hw' with x | x
          · exact m3 w' x
          · have e : w' = w := by simpa using x
            rw [e, ha]
            rfl
        · unfold Tx.rF
          rw [eP, if_neg h0, if_neg fun y => by have := y.1 w mw; rw [hm] at this; cases this]
    rw [lz, List.take_length] at e3 m3
    subst e3
    generalize g3 : upd H3 p3 _ = G3
    have a3 := new_at g3
    have t3 := new_sm g3 hp3
    have s3' := (s12.trans s3).trans t3
    have f1' := s3' _ _ f1
    (try walk_at "rd")
    refine ⟨_, .inl (SqL.of f1'), ?_⟩
    rw [sV_len]
    have lb : ∀ x ∈ P.map (fun w => (Tx.rS ws w).getD 0), x < 2 ^ ws.length := fun x hx => by
      obtain ⟨w, hw', rfl⟩ := List.mem_map.mp hx
      have := m3 w hw'
      cases e : Tx.rS ws w with
      | none => rw [e] at this; cases this
      | some a => exact Tx.rS_lt hw e
    refine ⟨_, _, rfl, ws.length, rfl, hw.few, .inl ⟨p3, _, rfl, a3, by rw [nV_len, List.length_map]; exact hn, fun x hx => ?_, ?_⟩⟩
    · obtain ⟨i, hi, rfl⟩ := List.mem_map.mp hx
      exact ⟨"int", rfl⟩
    rw [nV_len]
    by_cases hr : (P.map fun w => (Tx.rS ws w).getD 0).length ≤ 70 ∧ (P.map fun w => (Tx.rS ws w).getD 0).Pairwise (· < ·)
    · have e : famP ws.length (-1) (nV (P.map fun w => (Tx.rS ws w).getD 0)) = true := (famP_iff _ _).mpr ⟨fun x _ => by omega, hr.2, lb⟩
      refine ⟨true, by rw [e, decide_eq_true hr.1]; rfl, ?_⟩
      rw [if_neg (by decide)]
      exact q1 _ (by unfold Tx.rF; rw [eP, if_neg h0, if_pos ⟨m3, hr⟩]) p3 _ (old_none (s12.trans s3) hp3) s3' a3
    · have e : (decide ((P.map fun w => (Tx.rS ws w).getD 0).length ≤ 70) && famP ws.length (-1) (nV (P.map fun w => (Tx.rS ws w).getD 0))) = false := by
        rw [Bool.eq_false_iff]
        intro y
        rw [Bool.and_eq_true, decide_eq_true_eq] at y
        exact hr ⟨y.1, ((famP_iff _ _).mp y.2).2.1⟩
      refine ⟨false, by rw [e], ?_⟩
      rw [if_pos rfl]
      exact q2 (by unfold Tx.rF; rw [eP, if_neg h0, if_neg (fun z => hr z.2)]) _ s3'
abbrev s__law_at : Stmt := top 22
theorem sc__law_at : FnScope ["_law_script", "_law_k"] ["_law_script", "_law_k"] (defScope s__law_at) := ⟨rfl, rfl, rfl, by decide +kernel, rfl, by decide +kernel, by decide +kernel⟩
def spCell (K : PySem.W.Frag) : Sp := sp2 fun x y H Q => ∃ (a : Addr) (ns : List Int) (k : Nat), x = .ref a ∧ SqL K H a (ns.map V.int) ∧ ns.length ≤ 63 ∧ y = .int k ∧ k ≤ 1000 ∧ ∀ z : Int, Q (.int z) H
theorem ints_at {ns : List Int} {i : Int} (h0 : 0 ≤ i) (h1 : i < ns.length) : ∃ z, atI (ns.map V.int) i = some (.int z) := by
  refine ⟨ns[i.toNat]'(by omega), ?_⟩
  unfold atI ixN
  rw [if_pos h0, if_pos (by rw [List.length_map]; exact h1)]
  simp [List.getElem?_eq_getElem (show i.toNat < ns.length by omega)]
set_option maxHeartbeats 4000000 in
theorem ok__law_at {f : Addr} {fd : FuncData} (F : Fun K "_law_at" "_law_at" s__law_at f fd) (T : Txt mg)  : FnOk P w K mg base CX0 1 f fd ["_law_script", "_law_k"] (spCell K) := by
  have sc := sc__law_at
  refine F.ok sc__law_at (fun vs H Q E h => ?_) (fun cdv A outer s H vs Q E hr h => ?_)
  · obtain ⟨_, _, rfl, _⟩ := h
    rfl
  · obtain ⟨x0, x1, rfl, h⟩ := h
    refine ⟨_, (pss_cons (ps_if (pt_cmpR op_lt (pv 1) (pe_callB (call_lenK (K := K) rfl) (by rfl) T.n_len PySem.boot_len (pa_cons (pv 0) pa_nil)) (nomark _)) (pss_one (ps_ret (pe_ix (ix_K (K := K) rfl) (pv 0) (pv 1) (fun _ _ => rfl)))) pss_nil)
      (pss_cons (ps_if (pt_cmpR (op_eqK (K := K) rfl hr.units0) (pe_callB (call_lenK (K := K) rfl) (by rfl) T.n_len PySem.boot_len (pa_cons (pv 0) pa_nil)) pe_int (nomark _)) (pss_one (ps_ret (pe_op op_add (pe_op op_mul (pe_op op_mul (pv 1) (pv 1)) pe_int) pe_int))) pss_nil)
      (pss_one (ps_ret (pe_op op_add (pe_op op_mul (pe_ix (ix_K (K := K) rfl) (pv 0) (pe_op op_mod (pv 1) (pe_callB (call_lenK (K := K) rfl) (by rfl) T.n_len PySem.boot_len (pa_cons (pv 0) pa_nil))) (fun _ _ => rfl)) (pe_op op_add (pv 1) pe_int)) (pe_op op_mul (pe_op op_mul (pv 1) (pv 1)) pe_int)))))), ?_⟩
    refine rdg (σ' := [some x0, some x1]) rfl ?_
    obtain ⟨a, ns, k, rfl, hS, hl, rfl, hk, q⟩ := h
    walk_at "rd"
    refine ⟨_, .inl hS, ?_⟩
    rw [List.length_map]
    split
    · rename_i hc
      obtain ⟨z, hz⟩ := ints_at (ns := ns) (i := k) (by omega) (by omega)
      exact ixX_l hS hz (q z)
    rename_i hc
    refine ⟨_, .inl hS, ?_⟩
    rw [List.length_map]
    split
    · rename_i h0
      exact ⟨.inl ⟨by omega, by omega⟩, .inr ⟨by decide, by decide⟩, q _⟩
    rename_i h0
    refine ⟨_, .inl hS, by rw [List.length_map]; omega, ?_⟩
    rw [List.length_map]
    have e0 := Int.emod_nonneg (k : Int) (show (ns.length : Int) ≠ 0 by omega)
    have e1 := Int.emod_lt_of_pos (k : Int) (show (0 : Int) < ns.length by omega)
    obtain ⟨z, hz⟩ := ints_at (ns := ns) e0 e1
    refine ixX_l hS hz ?_
    (try walk_at "rd")
    exact ⟨.inr ⟨by omega, by omega⟩, .inl ⟨by omega, by omega⟩, .inr ⟨by decide, by decide⟩, q _⟩
abbrev s__law_drawn : Stmt := top 23
theorem sc__law_drawn : FnScope ["_law_cell", "_law_k", "_law_size", "_law_number"] ["_law_cell", "_law_k", "_law_size"] (defScope s__law_drawn) := ⟨rfl, rfl, rfl, by decide +kernel, rfl, by decide +kernel, by decide +kernel⟩
def spDrawn : Sp := sp3 fun x y z H Q => ∃ (c : Int) (k n : Nat), x = .int c ∧ y = .int k ∧ k ≤ 1000 ∧ z = .int n ∧ 0 < n ∧ ∀ b : Nat, b < n → Q (.int b) H
set_option maxHeartbeats 4000000 in
theorem ok__law_drawn {f : Addr} {fd : FuncData} (F : Fun K "_law_drawn" "_law_drawn" s__law_drawn f fd) (T : Txt mg)  : FnOk P w K mg base CX0 1 f fd ["_law_cell", "_law_k", "_law_size"] spDrawn := by
  have sc := sc__law_drawn
  refine F.ok sc__law_drawn (fun vs H Q E h => ?_) (fun cdv A outer s H vs Q E hr h => ?_)
  · obtain ⟨_, _, _, rfl, _⟩ := h
    rfl
  · obtain ⟨x0, x1, x2, rfl, h⟩ := h
    refine ⟨_, (pss_cons (ps_set (i := 3) sc.nd rfl (Or.inl rfl) (pe_op op_mul (pe_op op_add (pe_op op_add (pe_op op_mod (pv 0) pe_int) (pe_op op_mul pe_int (pv 1))) pe_int) (pe_op op_add pe_int (pe_op op_mul (pv 1) (pv 1)))))
      (pss_one (ps_ret (pe_op op_mod (pe_op op_mod (pe_op op_mul (pv 3) (pv 3)) pe_int) (pv 2))))), ?_⟩
    refine rdg (σ' := [some x0, some x1, some x2, none]) rfl ?_
    obtain ⟨c, k, n, rfl, rfl, hk, rfl, hn, q⟩ := h
    walk_at "rd"
    have c0 := Int.emod_nonneg c (show (2147483629 : Int) ≠ 0 by decide)
    have c1 := Int.emod_lt_of_pos c (show (0 : Int) < 2147483629 by decide)
    obtain ⟨d, hd⟩ := Int.eq_ofNat_of_zero_le c0
    rw [hd] at c1 ⊢
    have kk : k * k ≤ 1000000 := Nat.le_trans (Nat.mul_le_mul hk hk) (by decide)
    have en : ((d : Int) + 5 * (k : Int) + 1) * (48271 + (k : Int) * (k : Int)) = (((d + 5 * k + 1) * (48271 + k * k) : Nat) : Int) := by simp
    have bn : (d + 5 * k + 1) * (48271 + k * k) ≤ 3000000000 * 2000000 := Nat.mul_le_mul (by omega) (by omega)
    rw [en]
    generalize (d + 5 * k + 1) * (48271 + k * k) = x at bn ⊢
    have ex : (x : Int) * (x : Int) % 2147483647 % (n : Int) = ((x * x % 2147483647 % n : Nat) : Int) := by simp
    rw [ex]
    have ek : (k : Int) * (k : Int) = ((k * k : Nat) : Int) := by simp
    exact ⟨by decide, .inl ⟨by decide, by decide⟩, .inl ⟨by omega, by omega⟩, .inr ⟨by rw [ek]; omega, by rw [ek]; omega⟩, .inl ⟨by omega, by omega⟩, by decide, by omega, q _ (Nat.mod_lt _ hn)⟩
abbrev s__law_words : Stmt := top 24
theorem sc__law_words : FnScope ["_law_script", "_law_letters", "_law_cell", "_law_stem", "_law_way", "_law_some", "_law_found", "_law_word", "_law_turn"] ["_law_script"] (defScope s__law_words) := ⟨rfl, rfl, rfl, by decide +kernel, rfl, by decide +kernel, by decide +kernel⟩
def spLWords (K : PySem.W.Frag) : Sp := sp1 fun x H Q => ∃ (a : Addr) (ns : List Int), x = .ref a ∧ SqL K H a (ns.map V.int) ∧ ns.length ≤ 63 ∧ ∀ (p : Addr) (ws : List Str) (H' : Hp), H p = none → Same H H' → H' p = some (.lst (sV ws)) → Tx.Wds ws → ws ≠ [] → Q (.ref p) H'
set_option maxHeartbeats 4000000 in
theorem ok__law_words {f : Addr} {fd : FuncData} (F : Fun K "_law_words" "_law_words" s__law_words f fd) (T : Txt mg) {f__law_at : Addr} {fd__law_at : FuncData} (C__law_at : Cal P w K mg base "_law_at" 1 ["_law_script", "_law_k"] (spCell K) f__law_at fd__law_at) : FnOk P w K mg base CX0 2 f fd ["_law_script"] (spLWords K) := by
  have sc := sc__law_words
  refine F.ok sc__law_words (fun vs H Q E h => ?_) (fun cdv A outer s H vs Q E hr h => ?_)
  · obtain ⟨_, rfl, _⟩ := h
    rfl
  · obtain ⟨x0, rfl, h⟩ := h
    refine ⟨_, (pss_cons (ps_set (i := 1) sc.nd rfl (Or.inr rfl) pe_str)
      (pss_cons (ps_set (i := 2) sc.nd rfl (Or.inr rfl) (pe_cal C__law_at hr (by decide) (by rfl) (pa_cons (pv 0) (pa_cons pe_int pa_nil))))
      (pss_cons (ps_set (i := 3) sc.nd rfl (Or.inr rfl) (pe_bm PySem.F.plainAttrs_str PySem.F.slot_str_join PySem.F.type_str_join (mt_join (K := K) rfl) pe_str (pa_cons (pe_comp (N := ["_law_k", "_law_letters", "_law_cell"]) (nt := 1) (caps := [1, 2]) comp_ok rfl (pi_range1 (by rfl) T.n_range (pa_cons pe_int pa_nil)) (fun _ _ _ _ _ => (pg_name (i := 0) (show List.Nodup (α := Str) ["_law_k", "_law_letters", "_law_cell"] from by decide +kernel) rfl (Or.inl rfl))) gk_name (fun _ _ _ _ _ => pts_nil) (fun _ _ _ _ _ => (pe_item_str (pv 1) (pe_op op_mod (pe_op op_add (pe_op op_fdivB (pv 2) pe_int) (pe_op op_mul (pe_op op_mul (pv 0) (pv 0)) (pe_op op_add pe_int (pe_op op_mod (pe_op op_fdivB (pv 2) pe_int) pe_int)))) pe_int) (fun _ _ => rfl)))) pa_nil)))
      (pss_cons (ps_set (i := 4) sc.nd rfl (Or.inl rfl) (pe_op op_mod (pe_op op_fdivB (pv 2) pe_int) pe_int))
      (pss_cons (ps_comp (i := 5) sc.nd rfl rfl (by rfl) (N := ["_law_k", "_law_stem"]) (nt := 1) (caps := [3]) comp_ok rfl (pi_range1 (by rfl) T.n_range (pa_cons pe_int pa_nil)) (fun _ _ _ _ _ => (pg_name (i := 0) (show List.Nodup (α := Str) ["_law_k", "_law_stem"] from by decide +kernel) rfl (Or.inl rfl))) gk_name (fun _ _ _ _ _ => pts_nil) (fun _ _ _ _ _ => (pe_slice sl_str (pv 1) po_none (po_some (pe_op op_add (pv 0) pe_int)))))
      (pss_cons (ps_if (pt_cmpR (op_eqK (K := K) rfl hr.units0) (pv 4) pe_int (nomark _)) (pss_one (ps_comp (i := 5) sc.nd rfl rfl (by rfl) (N := ["_law_k", "_law_stem"]) (nt := 1) (caps := [3]) comp_ok rfl (pi_range1 (by rfl) T.n_range (pa_cons pe_int pa_nil)) (fun _ _ _ _ _ => (pg_name (i := 0) (show List.Nodup (α := Str) ["_law_k", "_law_stem"] from by decide +kernel) rfl (Or.inl rfl))) gk_name (fun _ _ _ _ _ => pts_nil) (fun _ _ _ _ _ => (pe_slice sl_str (pv 1) (po_some (pe_op op_sub pe_int (pv 0))) po_none)))) pss_nil)
      (pss_cons (ps_if (pt_cmpR (op_eqK (K := K) rfl hr.units0) (pv 4) pe_int (nomark _)) (pss_one (ps_set (i := 5) sc.nd rfl (Or.inl rfl) (pe_op (op_catK (K := K) rfl) (pe_comp (N := ["_law_k", "_law_stem"]) (nt := 1) (caps := [3]) comp_ok rfl (pi_range1 (by rfl) T.n_range (pa_cons pe_int pa_nil)) (fun _ _ _ _ _ => (pg_name (i := 0) (show List.Nodup (α := Str) ["_law_k", "_law_stem"] from by decide +kernel) rfl (Or.inl rfl))) gk_name (fun _ _ _ _ _ => pts_nil) (fun _ _ _ _ _ => (pe_slice sl_str (pe_slice sl_str (pv 1) (po_some (pe_op op_fdivB (pv 0) pe_int)) (po_some (pe_op op_sub (pe_op op_add pe_int (pv 0)) (pe_op op_fdivB (pv 0) pe_int)))) po_none (po_some pe_int)))) (pe_comp (N := ["_law_k", "_law_stem"]) (nt := 1) (caps := [3]) comp_ok rfl (pi_range1 (by rfl) T.n_range (pa_cons pe_int pa_nil)) (fun _ _ _ _ _ => (pg_name (i := 0) (show List.Nodup (α := Str) ["_law_k", "_law_stem"] from by decide +kernel) rfl (Or.inl rfl))) gk_name (fun _ _ _ _ _ => pts_nil) (fun _ _ _ _ _ => (pe_slice sl_str (pv 1) (po_some (pv 0)) (po_some (pe_op op_add (pv 0) pe_int)))))))) pss_nil)
      (pss_cons (ps_if (pt_cmpR (op_eqK (K := K) rfl hr.units0) (pv 4) pe_int (nomark _)) (pss_one (ps_comp (i := 5) sc.nd rfl rfl (by rfl) (N := ["_law_k", "_law_stem", "_law_letters", "_law_cell"]) (nt := 1) (caps := [3, 1, 2]) comp_ok rfl (pi_range1 (by rfl) T.n_range (pa_cons pe_int pa_nil)) (fun _ _ _ _ _ => (pg_name (i := 0) (show List.Nodup (α := Str) ["_law_k", "_law_stem", "_law_letters", "_law_cell"] from by decide +kernel) rfl (Or.inl rfl))) gk_name (fun _ _ _ _ _ => pts_nil) (fun _ _ _ _ _ => (pe_op op_add_str (pe_op op_add_str (pe_slice sl_str (pv 1) po_none (po_some pe_int)) (pe_item_str (pv 2) (pe_op op_mod (pe_op op_add (pe_op op_fdivB (pv 3) pe_int) (pe_op op_mul pe_int (pv 0))) pe_int) (fun _ _ => rfl))) (pe_slice sl_str (pv 1) (po_some pe_int) po_none))))) pss_nil)
      (pss_cons (ps_if (pt_cmpR (op_eqK (K := K) rfl hr.units0) (pv 4) pe_int (nomark _)) (pss_one (ps_set (i := 5) sc.nd rfl (Or.inl rfl) (pe_lst (pa_consC pe_str (pa_consC pe_str (pa_consC pe_str (pa_consC pe_str (pa_consC pe_str (pa_consC pe_str (pa_consC pe_str (pa_consC pe_str pa_nil))))))))))) pss_nil)
      (pss_cons (ps_set (i := 6) sc.nd rfl (Or.inl rfl) (pe_lst pa_nil))
      (pss_cons (ps_for PassesOwn.never rfl (pi_list (pv 5)) (pg_name (i := 7) sc.nd rfl (Or.inl rfl)) (pss_one (ps_if (PW.pt (pw_and (pt_cmpR (op_notInK (K := K) rfl) (pv 7) (pv 6) (by with_unfolding_all rfl)) (pw_and1 (pt_cmpR (op_neK (K := K) rfl hr.units0) (pv 7) pe_str (nomark _))))) (pss_one (ps_expr (pe_bm PySem.F.plainAttrs_list PySem.F.slot_list_append PySem.F.type_list_append mt_append (pv 6) (pa_cons (pv 7) pa_nil)))) pss_nil)))
      (pss_cons (ps_set (i := 8) sc.nd rfl (Or.inl rfl) (pe_op op_mod (pe_op op_fdivB (pv 2) pe_int) (pe_callB (call_lenK (K := K) rfl) (by rfl) T.n_len PySem.boot_len (pa_cons (pv 6) pa_nil))))
      (pss_one (ps_ret (pe_slice (sl_K (K := K) rfl) (pe_op (op_catK (K := K) rfl) (pe_slice (sl_K (K := K) rfl) (pv 6) (po_some (pv 8)) po_none) (pe_slice (sl_K (K := K) rfl) (pv 6) po_none (po_some (pv 8)))) po_none (po_some (pe_op op_add pe_int (pe_op op_mod (pv 2) pe_int)))))))))))))))))), ?_⟩
    refine rdg (σ' := [some x0, none, none, none, none, none, none, none, none]) rfl ?_
    obtain ⟨a, ns, rfl, hS, hl, q⟩ := h
    walk_at "rd"
    refine ⟨_, _, rfl, a, ns, 0, rfl, hS, hl, rfl, by omega, fun c => ⟨rfl, by decide, by decide, ?_⟩⟩
    rw [show Int.toNat 8 = 8 from rfl]
    refine compRs (fun _ => true) (fun k => .str ⟨#[97 + ((c / 9 + (k : Int) * k * (1 + c / 300 % 3)) % 26).toNat]⟩) (by decide) (fun k hk H1 s1 R R' r1 r2 => ?_) fun H1 p1 s1 hp1 => ?_
    · (try walk_at "rd")
      have e0 := Int.emod_nonneg (c / 9 + (k : Int) * k * (1 + c / 300 % 3)) (show (26 : Int) ≠ 0 by decide)
      have e1 := Int.emod_lt_of_pos (c / 9 + (k : Int) * k * (1 + c / 300 % 3)) (show (0 : Int) < 26 by decide)
      have ek : (k : Int) * k = ((k * k : Nat) : Int) := by simp
      have kk : k * k ≤ 8 * 8 := Nat.mul_le_mul (by omega) (by omega)
      refine ⟨⟨by decide, by decide⟩, .inl ⟨by omega, by omega⟩, ⟨by decide, by decide⟩, by decide, .inl ⟨by rw [ek]; omega, by rw [ek]; omega⟩, by decide, e0, by omega, by rw [show (Str.ofString "abcdefghijklmnopqrstuvwxyz").length = 26 from abc_len]; exact e1, _, abc_at _ (by omega), r1 rfl _ (Same.refl _)⟩
    rw [List.filter_eq_self.mpr fun _ _ => rfl, map_sV]
    generalize g1 : upd H1 p1 _ = G1
    have a1 := new_at g1
    have t1 := s1.trans (new_sm g1 hp1)
    (try walk_at "rd")
    refine ⟨_, p1, _, rfl, rfl, SqL.of a1, join_fits (M := 1) (N := 8) (fun y hy => ?_) (by simp) (by decide +kernel) (by decide), ?_⟩
    · obtain ⟨k, _, rfl⟩ := List.mem_map.mp hy
      exact Nat.le_refl 1
    obtain ⟨hz8, hzl⟩ := stem_ok (ys := (List.range 8).map fun k : Nat => (⟨#[97 + ((c / 9 + (k : Int) * k * (1 + c / 300 % 3)) % 26).toNat]⟩ : Str)) fun y hy => by
      obtain ⟨k, _, rfl⟩ := List.mem_map.mp hy
      have e0 := Int.emod_nonneg (c / 9 + (k : Int) * k * (1 + c / 300 % 3)) (show (26 : Int) ≠ 0 by decide)
      have e1 := Int.emod_lt_of_pos (c / 9 + (k : Int) * k * (1 + c / 300 % 3)) (show (0 : Int) < 26 by decide)
      exact ⟨_, rfl, by omega, by omega⟩
    rw [List.length_map, List.length_range] at hz8
    generalize Txt.join (Str.ofString "") ((List.range 8).map fun k : Nat => (⟨#[97 + ((c / 9 + (k : Int) * k * (1 + c / 300 % 3)) % 26).toNat]⟩ : Str)) = z at hz8 hzl ⊢
    have zb : z.length ≤ 100000 := by omega
    refine ⟨⟨by decide, by decide⟩, by decide, by decide, by decide, ?_⟩
    refine compRs (fun _ => true) (fun k => .str (Txt.slice z none (some ((k + 1 : Nat) : Int)))) (by decide) (fun k hk H2 s2 R R' r1 r2 => ?_) fun H2 p2 s2 hp2 => ?_
    · (try walk_at "rd")
      exact ⟨_, rfl, zb, r1 rfl _ (Same.refl _)⟩
    rw [List.filter_eq_self.mpr fun _ _ => rfl, map_sV]
    generalize g2 : upd H2 p2 _ = G2
    have a2 := new_at g2
    have t2 := (t1.trans s2).trans (new_sm g2 hp2)
    have gd0 : Gd ((List.range 8).map fun k => Txt.slice z none (some ((k + 1 : Nat) : Int))) := Gd.of _ (by decide) (by decide) (fun k hk => by
      have := len_to (z := z) (j := k + 1) (by omega)
      exact ⟨by omega, by omega, ls_slice hzl⟩) (by
      have := len_to (z := z) (j := 0 + 1) (by omega)
      omega)
    refine seqCut (fun σ' H' => ∃ (p5 : Addr) (L : List Str), σ' = [some (.ref a), some (.str abc), some (.int c), some (.str z), some (.int (c / 2000 % 5)), some (.ref p5), none, none, none] ∧ Same H H' ∧ H' p5 = some (.lst (sV L)) ∧ Gd L) ?_ fun N hN => ?_
    rotate_left
    · (try walk_at "rd")
      refine ite2 (fun h1 => ⟨by decide, by decide, ?_⟩) fun h1 => hN _ _ ⟨p2, _, rfl, t2, a2, gd0⟩
      rw [show Int.toNat 8 = 8 from rfl]
      refine compRs (fun _ => true) (fun k => .str (Txt.slice z (some ((7 - k : Nat) : Int)) none)) (by decide) (fun k hk H3 s3 R R' r1 r2 => ?_) fun H3 p3 s3 hp3 => ?_
      · (try walk_at "rd")
        rw [show (7 : Int) - (k : Nat) = ((7 - k : Nat) : Int) by omega]
        exact ⟨_, rfl, zb, r1 rfl _ (Same.refl _)⟩
      rw [List.filter_eq_self.mpr fun _ _ => rfl, map_sV]
      refine hN _ _ ⟨p3, _, rfl, (t2.trans s3).trans (Same.new hp3), upd_same, Gd.of _ (by decide) (by decide) (fun k hk => ?_) ?_⟩
      · have := len_from (z := z) (i := 7 - k) (by omega)
        exact ⟨by omega, by omega, ls_slice hzl⟩
      · have := len_from (z := z) (i := 7 - 0) (by omega)
        omega
    rintro σ' H3 ⟨p5, L, rfl, s3, a3, gd⟩
    refine seqCut (fun σ' H' => ∃ (p5 : Addr) (L : List Str), σ' = [some (.ref a), some (.str abc), some (.int c), some (.str z), some (.int (c / 2000 % 5)), some (.ref p5), none, none, none] ∧ Same H H' ∧ H' p5 = some (.lst (sV L)) ∧ Gd L) ?_ fun N hN => ?_
    rotate_left
    · (try walk_at "rd")
      refine ite2 (fun h1 => ⟨by decide, by decide, ?_⟩) fun h1 => hN _ _ ⟨p5, L, rfl, s3, a3, gd⟩
      rw [show Int.toNat 4 = 4 from rfl]
      refine compRs (fun _ => true) (fun k => .str (Txt.slice (Txt.slice z (some ((k / 2 : Nat) : Int)) (some ((5 + k - k / 2 : Nat) : Int))) none (some 8))) (by decide) (fun k hk H7 s7 R R' r1 r2 => ?_) fun H7 p7 s7 hp7 => ?_
      · have q1 : (k : Int) / 2 = ((k / 2 : Nat) : Int) := by omega
        have q2 : (5 : Int) + k - ((k / 2 : Nat) : Int) = ((5 + k - k / 2 : Nat) : Int) := by omega
        (try walk_at "rd")
        rw [q1, q2]
        refine ⟨⟨by decide, by decide⟩, ⟨by decide, by decide⟩, ?_⟩
        exact ⟨_, rfl, zb, _, rfl, Nat.le_trans (Txt.slice_le z _ _) zb, r1 rfl _ (Same.refl _)⟩
      rw [List.filter_eq_self.mpr fun _ _ => rfl, map_sV]
      generalize g7 : upd H7 p7 _ = G7
      have a7 := new_at g7
      have t7 := (s3.trans s7).trans (new_sm g7 hp7)
      refine ⟨by decide, by decide, ?_⟩
      refine compRs (fun _ => true) (fun k => .str (Txt.slice z (some (k : Int)) (some ((k + 1 : Nat) : Int)))) (by decide) (fun k hk H8 s8 R R' r1 r2 => ?_) fun H8 p8 s8 hp8 => ?_
      · (try walk_at "rd")
        exact ⟨_, rfl, zb, r1 rfl _ (Same.refl _)⟩
      rw [List.filter_eq_self.mpr fun _ _ => rfl, map_sV]
      generalize g8 : upd H8 p8 _ = G8
      have a8 := new_at g8
      have t8 := (t7.trans s8).trans (new_sm g8 hp8)
      have a7 := new_sm g8 hp8 _ _ (s8 _ _ a7)
      have l1 : ∀ k, k < 4 → (Txt.slice (Txt.slice z (some ((k / 2 : Nat) : Int)) (some ((5 + k - k / 2 : Nat) : Int))) none (some 8)).length = 5 + k - k / 2 - k / 2 := fun k hk => by
        have e1 := len_both (z := z) (i := k / 2) (j := 5 + k - k / 2) (by omega) (by omega)
        rw [len_to_all (by omega), e1]
      refine ⟨p7, p8, _, _, rfl, rfl, SqL.of a7, SqL.of a8, by rw [sV_len, sV_len]; simp only [List.length_map, List.length_range]; decide, fun p9 hp9 => ?_⟩
      rw [show sV ((List.range 4).map fun k : Nat => Txt.slice (Txt.slice z (some ((k / 2 : Nat) : Int)) (some ((5 + k - k / 2 : Nat) : Int))) none (some 8)) ++ sV ((List.range 4).map fun k : Nat => Txt.slice z (some (k : Int)) (some ((k + 1 : Nat) : Int))) = sV (((List.range 4).map fun k : Nat => Txt.slice (Txt.slice z (some ((k / 2 : Nat) : Int)) (some ((5 + k - k / 2 : Nat) : Int))) none (some 8)) ++ ((List.range 4).map fun k : Nat => Txt.slice z (some (k : Int)) (some ((k + 1 : Nat) : Int)))) from List.map_append.symm]
      refine hN _ _ ⟨p9, _, rfl, t8.trans (Same.new hp9), upd_same, ⟨by simp, fun w hw => ?_, _, by rw [List.getElem?_append_left (by simp), List.getElem?_map, List.getElem?_range (by decide)]; rfl, fun e => by have z0 := l1 0 (by decide); exact absurd (z0.symm.trans e) (by decide)⟩⟩
      rcases List.mem_append.mp hw with x | x
      · obtain ⟨k, hk, rfl⟩ := List.mem_map.mp x
        have hk := List.mem_range.mp hk
        have := l1 k hk
        exact ⟨by omega, by omega, ls_slice (ls_slice hzl)⟩
      · obtain ⟨k, hk, rfl⟩ := List.mem_map.mp x
        have hk := List.mem_range.mp hk
        have := len_both (z := z) (i := k) (j := k + 1) (by omega) (by omega)
        exact ⟨by omega, by omega, ls_slice hzl⟩
    rintro σ' H4 ⟨p5, L, rfl, s4, a4, gd⟩
    refine seqCut (fun σ' H' => ∃ (p5 : Addr) (L : List Str), σ' = [some (.ref a), some (.str abc), some (.int c), some (.str z), some (.int (c / 2000 % 5)), some (.ref p5), none, none, none] ∧ Same H H' ∧ H' p5 = some (.lst (sV L)) ∧ Gd L) ?_ fun N hN => ?_
    rotate_left
    · (try walk_at "rd")
      refine ite2 (fun h1 => ⟨by decide, by decide, ?_⟩) fun h1 => hN _ _ ⟨p5, L, rfl, s4, a4, gd⟩
      rw [show Int.toNat 8 = 8 from rfl]
      refine compRs (fun _ => true) (fun k => .str (Txt.slice z none (some 3) ++ ⟨#[97 + ((c / 7 + 3 * (k : Int)) % 26).toNat]⟩ ++ Txt.slice z (some 4) none)) (by decide) (fun k hk H7 s7 R R' r1 r2 => ?_) fun H7 p7 s7 hp7 => ?_
      · have e0 := Int.emod_nonneg (c / 7 + 3 * (k : Int)) (show (26 : Int) ≠ 0 by decide)
        have e1 := Int.emod_lt_of_pos (c / 7 + 3 * (k : Int)) (show (0 : Int) < 26 by decide)
        have e24 : sizeLine = 16777216 := sizeLine_eq
        have l3 := Txt.slice_le z none (some 3)
        have l4 := Txt.slice_le z (some 4) none
        (try walk_at "rd")
        refine ⟨_, rfl, zb, ?_⟩
        exact ⟨⟨by decide, by decide⟩, .inl ⟨by decide, by decide⟩, by decide, e0, by omega, by rw [abc_len]; exact e1, _, abc_at _ (by omega), _, rfl, by show _ + 1 ≤ _; omega, _, rfl, zb, _, rfl, by rw [Str.length_append]; show _ + 1 + _ ≤ _; omega, r1 rfl _ (Same.refl _)⟩
      rw [List.filter_eq_self.mpr fun _ _ => rfl, map_sV]
      have lw : ∀ k : Nat, (Txt.slice z none (some 3) ++ ⟨#[97 + ((c / 7 + 3 * (k : Int)) % 26).toNat]⟩ ++ Txt.slice z (some 4) none).length = 8 := fun k => by
        have e1 := len_to (z := z) (j := 3) (by omega)
        have e2 := len_from (z := z) (i := 4) (by omega)
        rw [Str.length_append, Str.length_append, show (⟨#[97 + ((c / 7 + 3 * (k : Int)) % 26).toNat]⟩ : Str).length = 1 from rfl]
        have e1 : (Txt.slice z none (some 3)).length = 3 := e1
        have e2 : (Txt.slice z (some 4) none).length = z.length - 4 := e2
        omega
      refine hN _ _ ⟨p7, _, rfl, (s4.trans s7).trans (Same.new hp7), upd_same, Gd.of _ (by decide) (by decide) (fun k hk => ?_) ?_⟩
      · have e0 := Int.emod_nonneg (c / 7 + 3 * (k : Int)) (show (26 : Int) ≠ 0 by decide)
        have e1 := Int.emod_lt_of_pos (c / 7 + 3 * (k : Int)) (show (0 : Int) < 26 by decide)
        have := lw k
        exact ⟨by omega, by omega, ls_app (ls_app (ls_slice hzl) (ls_one (by omega) (by omega))) (ls_slice hzl)⟩
      · have := lw 0
        omega
    rintro σ' H5 ⟨p5, L, rfl, s5, a5, gd⟩
    refine seqCut (fun σ' H' => ∃ (p5 : Addr) (L : List Str), σ' = [some (.ref a), some (.str abc), some (.int c), some (.str z), some (.int (c / 2000 % 5)), some (.ref p5), none, none, none] ∧ Same H H' ∧ H' p5 = some (.lst (sV L)) ∧ Gd L) ?_ fun N hN => ?_
    rotate_left
    · (try walk_at "rd")
      refine ite2 (fun h1 => ⟨small5 (by simp), fun p7 hp7 => ?_⟩) fun h1 => hN _ _ ⟨p5, L, rfl, s5, a5, gd⟩
      refine hN _ _ ⟨p7, [("no" : Str), ("nones" : Str), ("non" : Str), ("one" : Str), ("n" : Str), ("nonen" : Str), ("ne" : Str), ("on" : Str)], rfl, s5.trans (Same.new hp7), upd_same, ⟨by decide, ?_, _, rfl, by decide +kernel⟩⟩
      show ∀ w ∈ [("no" : Str), ("nones" : Str), ("non" : Str), ("one" : Str), ("n" : Str), ("nonen" : Str), ("ne" : Str), ("on" : Str)], 1 ≤ w.length ∧ w.length ≤ 8 ∧ ∀ c ∈ w.cps.toList, 97 ≤ c ∧ c ≤ 122
      decide +kernel
    rintro σ' H6 ⟨p5, L, rfl, s6, a6, gd⟩
    (try walk_at "rd")
    refine ⟨small5 (by simp), fun pf hpf => ?_⟩
    generalize gf : upd H6 pf _ = Gf
    have af := new_at gf
    have tf := new_sm gf hpf
    have nf : p5 ≠ pf := ne_new hpf a6
    have a6 := tf _ _ a6
    refine ⟨⟨_, SqL.of a6⟩, loopLn (xs := sV L) (fun i σ H7 => ∃ (v : Option V) (F : List Str), σ = [some (.ref a), some (.str abc), some (.int c), some (.str z), some (.int (c / 2000 % 5)), some (.ref p5), some (.ref pf), v, none] ∧ Same H6 H7 ∧ H7 p5 = some (.lst (sV L)) ∧ H7 pf = some (.lst (sV F)) ∧ F.Nodup ∧ F.length ≤ i ∧ (∀ w ∈ F, Tx.Wd w) ∧ ("none" : Str) ∉ F ∧ (1 ≤ i → F ≠ [])) ⟨none, [], rfl, tf, a6, af, List.nodup_nil, Nat.le_refl _, fun w hw => (by cases hw), (fun z => by cases z), fun z => absurd z (by decide)⟩ (fun i σ H7 _ ⟨_, _, _, _, e, _⟩ => SqL.of e) ?_ ?_⟩
    · rintro i x σ H7 hx ⟨v, F, rfl, s7, b5, bf, nd, lF, wF, nF, hF⟩ N hN
      obtain ⟨w, hw', rfl⟩ := List.mem_map.mp (List.mem_of_getElem? hx)
      have g8 := gd.few
      have hi : i < L.length := by
        have := (List.getElem?_eq_some_iff.mp hx).1
        rw [sV_len] at this
        exact this
      (try walk_at "rd")
      refine ⟨_, .inl (SqL.of bf), rfl, flat_s _, ?_⟩
      rw [inV_s]
      by_cases m1 : w ∈ F
      · refine ⟨false, by simpa using m1, iteF (hN _ _ ⟨_, F, rfl, s7, b5, bf, nd, by omega, wF, nF, fun _ z => ?_⟩)⟩
        rw [z] at m1
        cases m1
      refine ⟨true, by simpa using m1, iteT ?_⟩
      by_cases m2 : w = ("none" : Str)
      · refine ⟨false, by simpa using m2, iteF (hN _ _ ⟨_, F, rfl, s7, b5, bf, nd, by omega, wF, nF, fun _ => ?_⟩)⟩
        by_cases h0 : i = 0
        · subst h0
          obtain ⟨w0, e1, e2⟩ := gd.hd
          rw [List.getElem?_map, e1] at hx
          have hx : V.str w0 = V.str w := Option.some.inj hx
          rw [V.str.inj hx, m2] at e2
          exact absurd (by decide +kernel) e2
        · exact hF (by omega)
      refine ⟨true, by simpa using m2, iteT ⟨tyV_list bf, pf, _, _, rfl, rfl, bf, small5' (by rw [sV_len]; omega), ?_⟩⟩
      refine hN _ _ ⟨_, F ++ [w], rfl, s7.upd hpf, by rw [upd_ne nf]; exact b5, by rw [upd_same]; simp [sV], ?_, by simp; omega, fun y hy => ?_, fun y => ?_, fun _ => by simp⟩
      · exact List.nodup_append.mpr ⟨nd, by simp, fun x hx y hy e => m1 (by rw [show y = w by simpa using hy] at e; exact e ▸ hx)⟩
      · rcases List.mem_append.mp hy with x | x
        · exact wF y x
        · rw [List.mem_singleton.mp x]
          exact gd.wd w hw'
      · rcases List.mem_append.mp y with x | x
        · exact nF x
        · exact m2 (List.mem_singleton.mp x).symm
    · rintro σ H7 ⟨v, F, rfl, s7, b5, bf, nd, lF, wF, nF, hF⟩
      rw [sV_len] at lF hF
      have g8 := gd.few
      have hL : 1 ≤ L.length := by
        obtain ⟨w0, e1, _⟩ := gd.hd
        exact (List.getElem?_eq_some_iff.mp e1).1
      have hn : 0 < F.length := List.length_pos_iff.mpr (hF hL)
      (try walk_at "rd")
      refine ⟨⟨by decide, by decide⟩, _, .inl (SqL.of bf), by rw [sV_len]; omega, ?_⟩
      rw [sV_len]
      have u0 := Int.emod_nonneg (c / 10000) (show (F.length : Int) ≠ 0 by omega)
      have u1 := Int.emod_lt_of_pos (c / 10000) (show (0 : Int) < F.length by omega)
      obtain ⟨tn, et⟩ := Int.eq_ofNat_of_zero_le u0
      rw [et] at u1 ⊢
      refine ⟨pf, _, rfl, SqL.of bf, fun p8 hp8 => ?_⟩
      generalize g8' : upd H7 p8 _ = G8
      have b8 := new_at g8'
      have t8 := new_sm g8' hp8
      refine ⟨pf, _, rfl, SqL.of (t8 _ _ bf), fun p9 hp9 => ?_⟩
      generalize g9 : upd G8 p9 _ = G9
      have b9 := new_at g9
      have t9 := new_sm g9 hp9
      have b8 := t9 _ _ b8
      rw [cut_drop] at b8
      rw [cut_take] at b9
      have hc0 := Int.emod_nonneg c (show (8 : Int) ≠ 0 by decide)
      obtain ⟨m9, e9⟩ := Int.eq_ofNat_of_zero_le hc0
      refine ⟨p8, p9, _, _, rfl, rfl, SqL.of b8, SqL.of b9, by rw [List.length_drop, List.length_take, sV_len]; exact small5 (by omega), fun p10 hp10 => ⟨by decide, p10, _, rfl, SqL.of upd_same, fun p11 hp11 => ?_⟩⟩
      rw [e9, show (1 : Int) + (m9 : Int) = ((1 + m9 : Nat) : Int) by omega, cut_take, ← List.map_drop, ← List.map_take, ← List.map_append, ← List.map_take]
      have sA := (((s6.trans s7).trans t8).trans t9).trans (Same.new (o := .lst (List.map V.str (F.drop tn ++ F.take tn))) hp10)
      have pm : (F.drop tn ++ F.take tn).Perm F := (List.perm_append_comm).trans (by rw [List.take_append_drop])
      have mem : ∀ y ∈ (F.drop tn ++ F.take tn).take (1 + m9), y ∈ F := fun y hy => pm.mem_iff.mp (List.mem_of_mem_take hy)
      have hq11 : upd G9 p10 (HO.lst (List.map V.str (F.drop tn ++ F.take tn))) p11 = none := by
        rw [List.map_append, List.map_drop, List.map_take]
        exact hp11
      have hc1 := Int.emod_lt_of_pos c (show (0 : Int) < 8 by decide)
      refine q p11 _ _ (old_none sA hq11) (sA.trans (Same.new (o := .lst (List.map V.str ((F.drop tn ++ F.take tn).take (1 + m9)))) hq11)) upd_same ⟨?_, (pm.nodup_iff.mpr nd).sublist (List.take_sublist _ _), fun y hy => wF y (mem y hy), fun hy => nF (mem _ hy)⟩ ?_
      · exact Nat.le_trans (List.length_take_le _ _) (by omega)
      · intro z
        have z := congrArg List.length z
        rw [List.length_take, pm.length_eq, List.length_nil] at z
        omega
abbrev s__law_set_text : Stmt := top 25
theorem sc__law_set_text : FnScope ["_law_words_here", "_law_one", "_law_some"] ["_law_words_here", "_law_one"] (defScope s__law_set_text) := ⟨rfl, rfl, rfl, by decide +kernel, rfl, by decide +kernel, by decide +kernel⟩
def spLSetT (K : PySem.W.Frag) : Sp := sp2 fun x y H Q => ∃ (p : Addr) (ws : List Str) (a : Nat), x = .ref p ∧ H p = some (.lst (sV ws)) ∧ Tx.Wds ws ∧ y = .int (a : Nat) ∧ a < 2 ^ ws.length ∧ ∀ H', Same H H' → Q (.str (Tx.sT ws a)) H'
set_option maxHeartbeats 4000000 in
theorem ok__law_set_text {f : Addr} {fd : FuncData} (F : Fun K "_law_set_text" "_law_set_text" s__law_set_text f fd) (T : Txt mg)  : FnOk P w K mg base CX0 1 f fd ["_law_words_here", "_law_one"] (spLSetT K) := by
  have sc := sc__law_set_text
  refine F.ok sc__law_set_text (fun vs H Q E h => ?_) (fun cdv A outer s H vs Q E hr h => ?_)
  · obtain ⟨_, _, rfl, _⟩ := h
    rfl
  · obtain ⟨x0, x1, rfl, h⟩ := h
    refine ⟨_, (pss_cons (ps_comp (i := 2) sc.nd rfl rfl (by rfl) (N := ["_law_k", "_law_words_here", "_law_one"]) (nt := 1) (caps := [0, 1]) comp_ok rfl (pi_range1 (by rfl) T.n_range (pa_cons (pe_callB (call_lenK (K := K) rfl) (by rfl) T.n_len PySem.boot_len (pa_cons (pv 0) pa_nil)) pa_nil)) (fun _ _ _ _ _ => (pg_name (i := 0) (show List.Nodup (α := Str) ["_law_k", "_law_words_here", "_law_one"] from by decide +kernel) rfl (Or.inl rfl))) gk_name (fun _ _ _ _ _ => (pts_one (pt_cmpR (op_eqK (K := K) rfl hr.units0) (pe_op op_and (pe_op op_shr (pv 2) (pv 0)) pe_int) pe_int (nomark _)))) (fun _ _ _ _ _ => (pe_ix (ix_K (K := K) rfl) (pv 1) (pv 0) (fun _ _ => rfl))))
      (pss_one (ps_ret (pe_ix (ix_K (K := K) rfl) (pe_lst (pa_cons (pe_bm PySem.F.plainAttrs_str PySem.F.slot_str_join PySem.F.type_str_join (mt_join (K := K) rfl) pe_str (pa_cons (pv 2) pa_nil)) (pa_cons pe_str pa_nil))) (pe_callTy call_int1 (by rfl) T.n_int PyProof.Rows.boot_int (pa_cons (pe_cmpR (op_eqK (K := K) rfl hr.units0) (pv 2) (pe_lst pa_nil) (nomark _)) pa_nil)) (fun _ _ => rfl))))), ?_⟩
    refine rdg (σ' := [some x0, some x1, none]) rfl ?_
    obtain ⟨p, ws, a, rfl, f1, hw, rfl, ha, q⟩ := h
    walk_at "rd"
    refine ⟨_, .inl (SqL.of f1), ?_⟩
    have h8 := hw.few
    rw [sV_len]
    refine ⟨by omega, by omega, ?_⟩
    rw [Int.toNat_natCast]
    refine compRs (fun k => a.testBit k) (fun k => .str (ws.getD k Str.empty)) (by omega) (fun k hk H3 s3 R R' r1 r2 => ?_) fun H3 p3 s3 hp3 => ?_
    · (try walk_at "rd")
      refine ⟨by omega, ?_⟩
      cases b : a.testBit k with
      | false =>
        rw [if_neg (by rw [shr_iff, b]; decide)]
        exact r2 b _ (Same.refl _)
      | true =>
        rw [if_pos (by rw [shr_iff, b])]
        have ek : ws[k]? = some (ws.getD k Str.empty) := by rw [List.getD_eq_getElem?_getD, List.getElem?_eq_getElem hk]; rfl
        exact ixX_l (SqL.of (s3 _ _ f1)) (atI_s ek) (r1 b _ (Same.refl _))
    rw [show ((List.range ws.length).filter fun k => a.testBit k).map (fun k => V.str (ws.getD k Str.empty)) = sV (Tx.wds ws a) from by unfold Tx.wds; rw [← nms_eq hw.few ha]; exact map_sV _ _]
    have lw : (Tx.wds ws a).length ≤ 8 := by
      unfold Tx.wds
      rw [List.length_map]
      exact Nat.le_trans (List.length_filter_le _ _) (by simp)
    have ly : ∀ y ∈ Tx.wds ws a, y.length ≤ 8 := fun y hy => (hw.wd y (Tx.wds_mem hw ha hy)).2.1
    generalize g3 : upd H3 p3 _ = G3
    have a3 := new_at g3
    have s3 := s3.trans (new_sm g3 hp3)
    (try walk_at "rd")
    refine ⟨rfl, _, p3, _, rfl, rfl, SqL.of a3, join_fits (M := 8) (N := 8) ly lw (by rw [Tx.lit_plus]; decide) (by decide), small5 (by simp), fun p4 hp4 => ⟨small5 (by simp), fun p5 hp5 => ?_⟩⟩
    generalize g4 : upd G3 p4 _ = G4 at hp5 ⊢
    have a4 := new_at g4
    have t4 := new_sm g4 hp4
    generalize g5 : upd G4 p5 _ = G5
    have a5 := new_at g5
    have t5 := new_sm g5 hp5
    have s5 := (s3.trans t4).trans t5
    refine eqX_l (SqL.of (t5 _ _ (t4 _ _ a3))) (SqL.of a5) (flat_s _) rfl ?_
    by_cases h0 : a = 0
    · have e : Tx.wds ws a = [] := by rw [h0]; rfl
      rw [show Tx.sT ws a = "-" from if_pos h0] at q
      rw [e]
      exact .inr ⟨true, rfl, ixX_l (SqL.of (t5 _ _ a4)) rfl (q _ s5)⟩
    · have ne := Tx.wds_ne hw ha h0
      rw [show Tx.sT ws a = _root_.PySem.Txt.join "+" (Tx.wds ws a) from if_neg h0] at q
      have e : eqVs (sV (Tx.wds ws a)) [] = false := by
        rw [show ([] : List V) = sV [] from rfl, eqVs_s]
        exact decide_eq_false ne
      rw [e]
      exact .inr ⟨false, rfl, ixX_l (SqL.of (t5 _ _ a4)) rfl (q _ s5)⟩
abbrev s__law_signs : Stmt := top 26
theorem sc__law_signs : FnScope ["_law_some"] [] (defScope s__law_signs) := ⟨rfl, rfl, rfl, by decide +kernel, rfl, by decide +kernel, by decide +kernel⟩
def spSigns : Sp := sp0 fun H Q => ∀ z : Str, z.length = 96 → As z → Q (.str z) H
set_option maxHeartbeats 4000000 in
theorem ok__law_signs {f : Addr} {fd : FuncData} (F : Fun K "_law_signs" "_law_signs" s__law_signs f fd) (T : Txt mg)  : FnOk P w K mg base CX0 1 f fd [] spSigns := by
  have sc := sc__law_signs
  refine F.ok sc__law_signs (fun vs H Q E h => ?_) (fun cdv A outer s H vs Q E hr h => ?_)
  · obtain ⟨rfl, _⟩ := h
    rfl
  · obtain ⟨rfl, h⟩ := h
    refine ⟨_, (pss_cons (ps_set (i := 0) sc.nd rfl (Or.inl rfl) pe_str)
      (pss_one (ps_ret (pe_op op_add_str (pv 0) pe_str)))), ?_⟩
    refine rdg (σ' := [none]) rfl ?_
    walk_at "rd"
    refine ⟨by decide +kernel, h _ (by decide +kernel) ?_⟩
    unfold As
    decide +kernel
abbrev s__law_bent : Stmt := top 27
theorem sc__law_bent : FnScope ["_law_script", "_law_words_here", "_law_text", "_law_cell", "_law_at_here", "_law_sign", "_law_word", "_law_parts", "_law_some"] ["_law_script", "_law_words_here", "_law_text"] (defScope s__law_bent) := ⟨rfl, rfl, rfl, by decide +kernel, rfl, by decide +kernel, by decide +kernel⟩
def spBent (K : PySem.W.Frag) : Sp := sp3 fun x y z H Q => ∃ (a p : Addr) (ns : List Int) (ws : List Str) (t : Str), x = .ref a ∧ SqL K H a (ns.map V.int) ∧ ns.length ≤ 63 ∧ y = .ref p ∧ H p = some (.lst (sV ws)) ∧ Tx.Wds ws ∧ ws ≠ [] ∧ z = .str t ∧ As t ∧ t.length ≤ 600 ∧ (∀ q ∈ _root_.PySem.Txt.split t " ", q.length ≤ 80) ∧ ∀ v H', Same H H' → Gv 900 H' v → Q v H'
set_option maxHeartbeats 4000000 in
theorem ok__law_bent {f : Addr} {fd : FuncData} (F : Fun K "_law_bent" "_law_bent" s__law_bent f fd) (T : Txt mg) {f__law_at : Addr} {fd__law_at : FuncData} (C__law_at : Cal P w K mg base "_law_at" 1 ["_law_script", "_law_k"] (spCell K) f__law_at fd__law_at) {f__law_signs : Addr} {fd__law_signs : FuncData} (C__law_signs : Cal P w K mg base "_law_signs" 1 [] spSigns f__law_signs fd__law_signs) : FnOk P w K mg base CX0 2 f fd ["_law_script", "_law_words_here", "_law_text"] (spBent K) := by
  have sc := sc__law_bent
  refine F.ok sc__law_bent (fun vs H Q E h => ?_) (fun cdv A outer s H vs Q E hr h => ?_)
  · obtain ⟨_, _, _, rfl, _⟩ := h
    rfl
  · obtain ⟨x0, x1, x2, rfl, h⟩ := h
    refine ⟨_, (pss_cons (ps_set (i := 3) sc.nd rfl (Or.inl rfl) (pe_cal C__law_at hr (by decide) (by rfl) (pa_cons (pv 0) (pa_cons pe_int pa_nil))))
      (pss_cons (ps_set (i := 4) sc.nd rfl (Or.inl rfl) (pe_op op_mod (pe_cal C__law_at hr (by decide) (by rfl) (pa_cons (pv 0) (pa_cons pe_int pa_nil))) (pe_op op_add (pe_callB call_len_str (by rfl) T.n_len PySem.boot_len (pa_cons (pv 2) pa_nil)) pe_int)))
      (pss_cons (ps_set (i := 5) sc.nd rfl (Or.inl rfl) (pe_item_str (pe_cal0 C__law_signs hr (by decide) (by rfl)) (pe_op op_mod (pe_cal C__law_at hr (by decide) (by rfl) (pa_cons (pv 0) (pa_cons pe_int pa_nil))) pe_int) (fun _ _ => rfl)))
      (pss_cons (ps_set (i := 6) sc.nd rfl (Or.inl rfl) (pe_ix (ix_K (K := K) rfl) (pv 1) (pe_op op_mod (pv 4) (pe_callB (call_lenK (K := K) rfl) (by rfl) T.n_len PySem.boot_len (pa_cons (pv 1) pa_nil))) (fun _ _ => rfl)))
      (pss_cons (ps_set (i := 7) sc.nd rfl (Or.inl rfl) (pe_bm PySem.F.plainAttrs_str PySem.F.slot_str_split PySem.F.type_str_split mt_split (pv 2) (pa_cons pe_str pa_nil)))
      (pss_cons (ps_set (i := 8) sc.nd rfl (Or.inl rfl) (pe_lst (pa_cons (pe_op op_add_str (pe_op op_add_str (pe_slice sl_str (pv 2) po_none (po_some (pv 4))) (pv 5)) (pe_slice sl_str (pv 2) (po_some (pv 4)) po_none)) (pa_cons (pe_op op_add_str (pe_slice sl_str (pv 2) po_none (po_some (pv 4))) (pe_slice sl_str (pv 2) (po_some (pe_op op_add (pv 4) pe_int)) po_none)) (pa_cons (pe_op op_add_str (pe_op op_add_str (pe_slice sl_str (pv 2) po_none (po_some (pv 4))) (pv 5)) (pe_slice sl_str (pv 2) (po_some (pe_op op_add (pv 4) pe_int)) po_none)) (pa_cons (pe_op op_add_str (pv 2) pe_str) pa_nil))))))
      (pss_cons (ps_set (i := 8) sc.nd rfl (Or.inl rfl) (pe_op (op_catK (K := K) rfl) (pv 8) (pe_lst (pa_cons (pe_op op_add_str pe_str (pv 2)) (pa_cons (pe_op op_add_str (pv 2) pe_str) (pa_cons (pe_op op_add_str (pe_op op_add_str (pv 2) pe_str) (pv 6)) (pa_cons (pe_op op_add_str (pe_op op_add_str (pv 6) pe_str) (pv 2)) (pa_cons (pe_bm PySem.F.plainAttrs_str PySem.F.slot_str_join PySem.F.type_str_join (mt_join (K := K) rfl) pe_str (pa_cons (pe_rev (K := K) rfl (pe_bm PySem.F.plainAttrs_str PySem.F.slot_str_split PySem.F.type_str_split mt_split (pv 2) (pa_cons pe_str pa_nil))) pa_nil)) pa_nil))))))))
      (pss_cons (ps_set (i := 8) sc.nd rfl (Or.inl rfl) (pe_op (op_catK (K := K) rfl) (pv 8) (pe_lst (pa_cons (pe_bm PySem.F.plainAttrs_str PySem.F.slot_str_join PySem.F.type_str_join (mt_join (K := K) rfl) pe_str (pa_cons (pe_rev (K := K) rfl (pv 7)) pa_nil)) (pa_cons (pe_op op_add_str (pv 2) (pv 6)) (pa_cons (pe_op op_add_str (pe_op op_add_str (pv 2) pe_str) (pe_ix (ix_K (K := K) rfl) (pv 7) (pe_op op_mod (pv 4) (pe_callB (call_lenK (K := K) rfl) (by rfl) T.n_len PySem.boot_len (pa_cons (pv 7) pa_nil))) (fun _ _ => rfl))) (pa_cons (pe_op op_add_str (pv 2) pe_str) (pa_cons (pe_op op_add_str pe_str (pv 2)) pa_nil))))))))
      (pss_cons (ps_set (i := 8) sc.nd rfl (Or.inl rfl) (pe_op (op_catK (K := K) rfl) (pv 8) (pe_lst (pa_cons pe_str (pa_cons pe_str (pa_pos pep_str (pa1_cons (pe1 (pe_op op_add_str (pv 2) pe_str)) (pa1_cons (pe1 (pe_bm0 PySem.F.plainAttrs_str PySem.F.slot_str_upper PySem.F.type_str_upper mt_upper (pv 2))) (pa1_cons (pe1_repl (by decide +kernel) (by decide +kernel) (pv 2)) (pa1_cons (pe1 (pe_slice sl_str (pv 6) po_none (po_some (pe_un un_neg pe_int)))) (pa1_cons (pe1 (pe_slice sl_str (pv 6) (po_some pe_int) po_none)) pa1_nil)))))))))))
      (pss_cons (ps_set (i := 8) sc.nd rfl (Or.inl rfl) (pe_op (op_catK (K := K) rfl) (pv 8) (pe_lst (pa_pos (pep_ix (ix_K (K := K) rfl) (pe_lst (pa_consC pe_non (pa_consC pe_int (pa_consC pe_bl (pa_consL (pe_lst (pa_cons (pv 2) pa_nil)) (pa_consT (pe_tup (pa_cons (pv 2) pa_nil)) (pa_consD pe_dnewK pa_nil))))))) (pep_op op_mod (pv 4)) (fun _ _ => rfl)) (pa1_cons (pe1_repl (by decide +kernel) (by decide +kernel) (pv 2)) (pa1_cons (pe1_repl (by decide +kernel) (by decide +kernel) (pv 2)) pa1_nil))))))
      (pss_one (ps_ret (pe_ix (ix_K (K := K) rfl) (pv 8) (pe_op op_mod (pv 3) (pe_callB (call_lenK (K := K) rfl) (by rfl) T.n_len PySem.boot_len (pa_cons (pv 8) pa_nil))) (fun _ _ => rfl)))))))))))))), ?_⟩
    refine rdg (σ' := [some x0, some x1, some x2, none, none, none, none, none, none]) rfl ?_
    obtain ⟨a, p, ns, ws, t, rfl, hS, hl, rfl, f1, hw, hne, rfl, ht, lt, lp3, q⟩ := h
    have e24 : sizeLine = 16777216 := sizeLine_eq
    have sl : ∀ lo hi, (_root_.PySem.Txt.slice t lo hi).length ≤ 600 := fun lo hi => Nat.le_trans slice_le lt
    have sa : ∀ lo hi, As (_root_.PySem.Txt.slice t lo hi) := fun lo hi => ht.slice
    have h8 := hw.few
    have wl := List.length_pos_iff.mpr hne
    have l1 : (Str.ofString " ").length = 1 := by decide +kernel
    have a1 : As (Str.ofString " ") := by unfold As; decide +kernel
    have l2 : (Str.ofString "+").length = 1 := by decide +kernel
    have a2 : As (Str.ofString "+") := by unfold As; decide +kernel
    have l3 : (Str.ofString " -").length = 2 := by decide +kernel
    have a3 : As (Str.ofString " -") := by unfold As; decide +kernel
    have l4 : (Str.ofString "- ").length = 2 := by decide +kernel
    have a4 : As (Str.ofString "- ") := by unfold As; decide +kernel
    have l5 : (Str.ofString " none").length = 5 := by decide +kernel
    have a5 : As (Str.ofString " none") := by unfold As; decide +kernel
    refine seqCut (fun σ' H' => H = H' ∧ ∃ c : Int, σ' = [some (.ref a), some (.ref p), some (.str t), some (.int c), none, none, none, none, none]) ?_ fun N hN => ?_
    rotate_left
    · (try walk_at "rd")
      exact ⟨_, _, rfl, a, ns, 6, rfl, hS, hl, rfl, by omega, fun c => hN _ _ ⟨rfl, c, rfl⟩⟩
    rintro σ' H' ⟨rfl, c, rfl⟩
    refine seqCut (fun σ' H' => H = H' ∧ ∃ k : Nat, k ≤ t.length ∧ σ' = [some (.ref a), some (.ref p), some (.str t), some (.int c), some (.int (k : Nat)), none, none, none, none]) ?_ fun N hN => ?_
    rotate_left
    · (try walk_at "rd")
      refine ⟨_, _, rfl, a, ns, 7, rfl, hS, hl, rfl, by omega, fun c2 => ⟨by omega, ?_⟩⟩
      (try walk_at "rd")
      have e0 := Int.emod_nonneg c2 (show ((t.length : Int) + 1) ≠ 0 by omega)
      have e1 := Int.emod_lt_of_pos c2 (show (0 : Int) < (t.length : Int) + 1 by omega)
      obtain ⟨k, ek⟩ := Int.eq_ofNat_of_zero_le e0
      rw [ek] at e1 ⊢
      exact ⟨by omega, hN _ _ ⟨rfl, k, by omega, rfl⟩⟩
    rintro σ' H' ⟨rfl, k, hk, rfl⟩
    refine seqCut (fun σ' H' => H = H' ∧ ∃ g : Str, As g ∧ g.length = 1 ∧ σ' = [some (.ref a), some (.ref p), some (.str t), some (.int c), some (.int (k : Nat)), some (.str g), none, none, none]) ?_ fun N hN => ?_
    rotate_left
    · (try walk_at "rd")
      refine ⟨rfl, fun z hz az => ⟨_, _, rfl, a, ns, 8, rfl, hS, hl, rfl, by omega, fun c3 => ?_⟩⟩
      (try walk_at "rd")
      have e0 := Int.emod_nonneg c3 (show (96 : Int) ≠ 0 by decide)
      have e1 := Int.emod_lt_of_pos c3 (show (0 : Int) < 96 by decide)
      have hi : (c3 % 96).toNat < z.cps.size := by have : z.cps.size = 96 := hz; omega
      refine ⟨by decide, e0, by omega, by rw [hz]; exact e1, _, Array.getElem?_eq_getElem hi, hN _ _ ⟨rfl, _, fun d hd => ?_, rfl, rfl⟩⟩
      rw [show d = z.cps[(c3 % 96).toNat] from by simpa [Tx.sg] using hd]
      exact az _ (by simp [Tx.sg])
    rintro σ' H' ⟨rfl, g, hg, lg, rfl⟩
    refine seqCut (fun σ' H' => H = H' ∧ ∃ w : Str, As w ∧ w.length ≤ 8 ∧ σ' = [some (.ref a), some (.ref p), some (.str t), some (.int c), some (.int (k : Nat)), some (.str g), some (.str w), none, none]) ?_ fun N hN => ?_
    rotate_left
    · (try walk_at "rd")
      refine ⟨_, .inl (SqL.of f1), ?_⟩
      rw [sV_len]
      refine ⟨by omega, ?_⟩
      rw [show (k : Int) % (ws.length : Int) = ((k % ws.length : Nat) : Int) by omega]
      have hj : k % ws.length < ws.length := Nat.mod_lt _ wl
      have ek := List.getElem?_eq_getElem hj
      have mw := hw.wd _ (List.mem_of_getElem? ek)
      exact ixX_l (SqL.of f1) (atI_s ek) (hN _ _ ⟨rfl, _, wd_as mw, mw.2.1, rfl⟩)
    rintro σ' H' ⟨rfl, w, aw, lw, rfl⟩
    have wsl : ∀ lo hi, (_root_.PySem.Txt.slice w lo hi).length ≤ 8 := fun lo hi => Nat.le_trans slice_le lw
    have pa := part_as ht 32
    have pl := Tx.part_len t 32
    have sp := Tx.split_len t 32
    have tu := turned ht (c := 32) (by decide)
    rw [← Tx.lit_space] at pa pl sp tu
    have spp := PyProof.Rows.split_pos t " "
    have sp2 := Tx.split_len t 43
    have tu2 := turned ht (c := 43) (by decide)
    rw [← Tx.lit_plus] at sp2 tu2
    refine seqCut (fun σ' H' => ∃ pp : Addr, Same H H' ∧ H' pp = some (.lst (sV (_root_.PySem.Txt.split t " "))) ∧ σ' = [some (.ref a), some (.ref p), some (.str t), some (.int c), some (.int (k : Nat)), some (.str g), some (.str w), some (.ref pp), none]) ?_ fun N hN => ?_
    rotate_left
    · (try walk_at "rd")
      exact ⟨rfl, t, _, rfl, rfl, by rw [Tx.lit_space]; rfl, by omega, fun pp hpp => hN _ _ ⟨pp, Same.new hpp, upd_same, rfl⟩⟩
    rintro σ' H0 ⟨pp, s0, app, rfl⟩
    refine seqCut (fun σ' H' => ∃ pl : Addr, Gll 900 H0 H' pl 4 ∧ σ' = [some (.ref a), some (.ref p), some (.str t), some (.int c), some (.int (k : Nat)), some (.str g), some (.str w), some (.ref pp), some (.ref pl)]) ?_ fun N hN => ?_
    rotate_left
    · (try walk_at "rd")
      have b1 : (_root_.PySem.Txt.slice t none (some (k : Int))).length = k := len_to hk
      have b2 : (_root_.PySem.Txt.slice t (some (k : Int)) none).length = t.length - k := len_from hk
      have b3 : (_root_.PySem.Txt.slice t (some ((k : Int) + 1)) none).length ≤ t.length - k := by
        by_cases h : k + 1 ≤ t.length
        · have := len_from (z := t) (i := k + 1) h
          rw [show ((k : Int) + 1) = ((k + 1 : Nat) : Int) by omega, this]
          omega
        · rw [slice_from_beyond (by omega)]
          exact Nat.zero_le _
      refine slS (by omega) ⟨_, rfl, by omega, slS (by omega) ⟨_, rfl, by rw [Str.length_append]; omega, slS (by omega) (slS (by omega) ⟨_, rfl, _, rfl, by omega, slS (by omega) ⟨_, rfl, by omega, slS (by omega) ⟨_, rfl, by rw [Str.length_append]; omega, by omega, ?_⟩⟩⟩)⟩⟩
      refine Gll.first (Q := fun v H' => N [some (.ref a), some (.ref p), some (.str t), some (.int c), some (.int (k : Nat)), some (.str g), some (.str w), some (.ref pp), some v] H') (Same.refl _) (gvs_cons (gv_s (((sa _ _).app hg).app (sa _ _)) ?_) (gvs_cons (gv_s ((sa _ _).app (sa _ _)) ?_) (gvs_cons (gv_s (((sa _ _).app hg).app (sa _ _)) ?_) (gvs_cons (gv_s (ht.app a2) ?_) gvs_nil)))) (by simp) fun p' H' gg => hN _ _ ⟨p', gg, rfl⟩
      all_goals simp only [Str.length_append]; omega
    rintro σ' H4 ⟨pl4, G4, rfl⟩
    refine seqCut (fun σ' H' => ∃ pl : Addr, Gll 900 H0 H' pl 9 ∧ σ' = [some (.ref a), some (.ref p), some (.str t), some (.int c), some (.int (k : Nat)), some (.str g), some (.str w), some (.ref pp), some (.ref pl)]) ?_ fun N hN => ?_
    rotate_left
    · (try walk_at "rd")
      refine ⟨by omega, by omega, by omega, by rw [Str.length_append]; omega, by omega, by rw [Str.length_append]; omega, rfl, rfl, t, _, rfl, rfl, by rw [Tx.lit_plus]; rfl, by omega, fun p1 hp1 => ⟨p1, rfl, _, SqL.of upd_same, fun p2 hp2 => ?_⟩⟩
      rw [show (sV (_root_.PySem.Txt.split t "+")).reverse = sV (_root_.PySem.Txt.split t "+").reverse from List.map_reverse.symm]
      have pl2 := Tx.part_len t 43
      rw [← Tx.lit_plus] at pl2
      refine ⟨_, p2, _, rfl, rfl, SqL.of upd_same, join_fits (M := 600) (N := 1000) (fun y hy => Nat.le_trans (pl2 y (List.mem_reverse.mp hy)) lt) (by rw [List.length_reverse]; omega) (by omega) (by decide), ?_⟩
      refine G4.more ((Same.new hp1).trans (Same.new hp2)) (gvs_cons (gv_s (a2.app ht) ?_) (gvs_cons (gv_s (ht.app a1) ?_) (gvs_cons (gv_s ((ht.app a2).app aw) ?_) (gvs_cons (gv_s ((aw.app a2).app ht) ?_) (gvs_cons (gv_s tu2.1 (by rw [tu2.2]; omega)) gvs_nil))))) (by simp) fun p' H' gg => hN _ _ ⟨p', gg, rfl⟩
      all_goals simp only [Str.length_append]; omega
    clear G4
    rintro σ' H5 ⟨pl5, G5, rfl⟩
    refine seqCut (fun σ' H' => ∃ pl : Addr, Gll 900 H0 H' pl 14 ∧ σ' = [some (.ref a), some (.ref p), some (.str t), some (.int c), some (.int (k : Nat)), some (.str g), some (.str w), some (.ref pp), some (.ref pl)]) ?_ fun N hN => ?_
    rotate_left
    · (try walk_at "rd")
      have c5 := G5.1 _ _ app
      refine ⟨rfl, _, SqL.of c5, fun p1 hp1 => ?_⟩
      rw [show (sV (_root_.PySem.Txt.split t " ")).reverse = sV (_root_.PySem.Txt.split t " ").reverse from List.map_reverse.symm]
      refine ⟨_, p1, _, rfl, rfl, SqL.of upd_same, join_fits (M := 600) (N := 1000) (fun y hy => Nat.le_trans (pl y (List.mem_reverse.mp hy)) lt) (by rw [List.length_reverse]; omega) (by omega) (by decide), ?_⟩
      refine ⟨by omega, by omega, _, .inl (SqL.of (Same.new hp1 _ _ c5)), ?_⟩
      rw [sV_len]
      refine ⟨by omega, ?_⟩
      rw [show (k : Int) % ((_root_.PySem.Txt.split t " ").length : Int) = ((k % (_root_.PySem.Txt.split t " ").length : Nat) : Int) by omega]
      have hj : k % (_root_.PySem.Txt.split t " ").length < (_root_.PySem.Txt.split t " ").length := Nat.mod_lt _ spp
      have ek := List.getElem?_eq_getElem hj
      have mp := List.mem_of_getElem? ek
      have lp := pl _ mp
      refine ixX_l (SqL.of (Same.new hp1 _ _ c5)) (atI_s ek) ⟨_, rfl, by rw [Str.length_append]; omega, by omega, by omega, ?_⟩
      refine G5.more (Same.new hp1) (gvs_cons (gv_s tu.1 (by rw [tu.2]; omega)) (gvs_cons (gv_s (ht.app aw) ?_) (gvs_cons (gv_s ((ht.app a1).app (pa _ mp)) ?_) (gvs_cons (gv_s (ht.app a3) ?_) (gvs_cons (gv_s (a4.app ht) ?_) gvs_nil))))) (by simp) fun p' H' gg => hN _ _ ⟨p', gg, rfl⟩
      · simp only [Str.length_append]; omega
      · have := lp3 _ mp
        simp only [Str.length_append]; omega
      · simp only [Str.length_append]; omega
      · simp only [Str.length_append]; omega
    clear G5
    rintro σ' H6 ⟨pl6, G6, rfl⟩
    refine seqCut (fun σ' H' => ∃ pl : Addr, Gll 900 H0 H' pl 22 ∧ σ' = [some (.ref a), some (.ref p), some (.str t), some (.int c), some (.int (k : Nat)), some (.str g), some (.str w), some (.ref pp), some (.ref pl)]) ?_ fun N hN => ?_
    rotate_left
    · (try walk_at "rd")
      refine ⟨by omega, rfl, ht, by omega, by omega, slS (by omega) (slS (by omega) ?_)⟩
      have w1 := wsl none (some (-1))
      have w2 := wsl (some 1) none
      have r0 : Txt.replace t (Str.ofString "+") (Str.ofString "") = Txt.replace t ⟨#[43]⟩ ⟨#[]⟩ := by rw [show Str.ofString "+" = ⟨#[43]⟩ from Tx.lit_plus, show Str.ofString "" = ⟨#[]⟩ from Tx.lit_empty]
      have r1 := struck_len (z := t) 43
      refine G6.more (Same.refl _) (gvs_cons (gv_s (by unfold As; decide +kernel) (by decide +kernel)) (gvs_cons (gv_s (by unfold As; decide +kernel) (by decide +kernel)) (gvs_cons (gv_s (by unfold As; decide +kernel) (by decide +kernel)) (gvs_cons (gv_s (ht.app a5) ?_) (gvs_cons (gv_s (up_as ht) (by rw [up_len ht]; omega)) (gvs_cons (gv_s (by rw [r0]; exact struck_as ht 43) (by rw [r0]; omega)) (gvs_cons (gv_s aw.slice (by omega)) (gvs_cons (gv_s aw.slice (by omega)) gvs_nil)))))))) (by simp) fun p' H' gg => hN _ _ ⟨p', gg, rfl⟩
      simp only [Str.length_append]; omega
    clear G6
    rintro σ' H7 ⟨pl7, G7, rfl⟩
    refine seqCut (fun σ' H' => ∃ pl : Addr, Gll 900 H0 H' pl 25 ∧ σ' = [some (.ref a), some (.ref p), some (.str t), some (.int c), some (.int (k : Nat)), some (.str g), some (.str w), some (.ref pp), some (.ref pl)]) ?_ fun N hN => ?_
    rotate_left
    · (try walk_at "rd")
      refine ⟨small5 (by simp), fun p1 hp1 => ⟨small5 (by simp), fun p2 hp2 p3 hp3 => ⟨small5 (by simp), fun p4 hp4 => ⟨by decide, ?_⟩⟩⟩⟩
      generalize g1 : upd H7 p1 _ = G1 at hp2 hp3 hp4 ⊢
      have c1 := new_at g1
      have s1 := new_sm g1 hp1
      generalize g2 : upd G1 p2 _ = G2 at hp3 hp4 ⊢
      have c2 := new_at g2
      have s2 := new_sm g2 hp2
      generalize g3 : upd G2 p3 _ = G3 at hp4 ⊢
      have c3 := new_at g3
      have s3 := new_sm g3 hp3
      generalize g4 : upd G3 p4 _ = G4
      have c4 := new_at g4
      have s4 := new_sm g4 hp4
      have c1 := s4 _ _ (s3 _ _ (s2 _ _ c1))
      have c2 := s4 _ _ (s3 _ _ c2)
      have c3 := s4 _ _ c3
      have gg : ∃ v, atI [V.non, V.int 7, V.bl true, V.ref p1, V.ref p2, V.ref p3] ((k : Int) % 6) = some v ∧ Gv 900 G4 v := by
        rw [show (k : Int) % 6 = ((k % 6 : Nat) : Int) by omega]
        have : k % 6 < 6 := Nat.mod_lt _ (by decide)
        generalize k % 6 = j at this
        have hj : j = 0 ∨ j = 1 ∨ j = 2 ∨ j = 3 ∨ j = 4 ∨ j = 5 := by omega
        rcases hj with rfl | rfl | rfl | rfl | rfl | rfl
        · exact ⟨_, atI_nat rfl, .inr ⟨"NoneType", rfl, by decide⟩⟩
        · exact ⟨_, atI_nat rfl, .inr ⟨"int", rfl, by decide⟩⟩
        · exact ⟨_, atI_nat rfl, .inr ⟨"bool", rfl, by decide⟩⟩
        · exact ⟨_, atI_nat rfl, .inr ⟨"list", by unfold kdOf; dsimp only; rw [c1], by decide⟩⟩
        · exact ⟨_, atI_nat rfl, .inr ⟨"tuple", by unfold kdOf; dsimp only; rw [c2], by decide⟩⟩
        · exact ⟨_, atI_nat rfl, .inr ⟨"dict", by unfold kdOf; dsimp only; rw [c3], by decide⟩⟩
      obtain ⟨v, ev, gv⟩ := gg
      refine ixX_l (SqL.of c4) ev ⟨by omega, by omega, ?_⟩
      rw [show Str.ofString " " = ⟨#[32]⟩ from Tx.lit_space, show Str.ofString "+" = ⟨#[43]⟩ from Tx.lit_plus]
      exact G7.more (((s1.trans s2).trans s3).trans s4) (gvs_cons gv (gvs_cons (gv_s (repl_as ht (by decide)) (by rw [repl_len]; omega)) (gvs_cons (gv_s (repl_as ht (by decide)) (by rw [repl_len]; omega)) gvs_nil))) (by simp) fun p' H' gg => hN _ _ ⟨p', gg, rfl⟩
    clear G7
    rintro σ' H9 ⟨pl9, G9, rfl⟩
    (try walk_at "rd")
    obtain ⟨t0, xs, ax, lx, hx⟩ := G9
    refine ⟨xs, .inl (SqL.of ax), by omega, ?_⟩
    have e0 := Int.emod_nonneg c (show ((xs.length : Nat) : Int) ≠ 0 by omega)
    have e1 := Int.emod_lt_of_pos c (show (0 : Int) < ((xs.length : Nat) : Int) by omega)
    obtain ⟨j, ej⟩ := Int.eq_ofNat_of_zero_le e0
    rw [ej] at e1 ⊢
    have hj : j < xs.length := by omega
    have ex := List.getElem?_eq_getElem hj
    exact ixX_l (SqL.of ax) (atI_nat ex) (q _ _ (s0.trans t0) (hx _ (List.mem_of_getElem? ex)))
abbrev s__law_read_set : Stmt := top 28
theorem sc__law_read_set : FnScope ["_law_words_here", "_law_text", "_law_one", "_law_last", "_law_word", "_law_places"] ["_law_words_here", "_law_text"] (defScope s__law_read_set) := ⟨rfl, rfl, rfl, by decide +kernel, rfl, by decide +kernel, by decide +kernel⟩
def spLRS (K : PySem.W.Frag) : Sp := sp2 fun x y H Q => ∃ (p : Addr) (ws : List Str) (z : Str), x = .ref p ∧ H p = some (.lst (sV ws)) ∧ Tx.Wds ws ∧ y = .str z ∧ z.length ≤ 10000 ∧ (_root_.PySem.Txt.split z "+").length ≤ 1000 ∧ (∀ a, Tx.rS ws z = some a → ∀ H', Same H H' → Q (.int (a : Nat)) H') ∧ (Tx.rS ws z = none → ∀ H', Same H H' → Q .non H')
set_option maxHeartbeats 4000000 in
theorem ok__law_read_set {f : Addr} {fd : FuncData} (F : Fun K "_law_read_set" "_law_read_set" s__law_read_set f fd) (T : Txt mg)  : FnOk P w K mg base CX0 1 f fd ["_law_words_here", "_law_text"] (spLRS K) := by
  have sc := sc__law_read_set
  refine F.ok sc__law_read_set (fun vs H Q E h => ?_) (fun cdv A outer s H vs Q E hr h => ?_)
  · obtain ⟨_, _, rfl, _⟩ := h
    rfl
  · obtain ⟨x0, x1, rfl, h⟩ := h
    refine ⟨_, (pss_cons (ps_if (pt_cmpR (op_eqK (K := K) rfl hr.units0) (pv 1) pe_str (nomark _)) (pss_one (ps_ret pe_int)) pss_nil)
      (pss_cons (ps_set (i := 2) sc.nd rfl (Or.inl rfl) pe_int)
      (pss_cons (ps_set (i := 3) sc.nd rfl (Or.inl rfl) (pe_un un_neg pe_int))
      (pss_cons (ps_for PassesOwn.never rfl (pi_list (pe_bm PySem.F.plainAttrs_str PySem.F.slot_str_split PySem.F.type_str_split mt_split (pv 1) (pa_cons pe_str pa_nil))) (pg_name (i := 4) sc.nd rfl (Or.inr rfl)) (pss_cons (ps_comp (i := 5) sc.nd rfl rfl (by rfl) (N := ["_law_k", "_law_word", "_law_words_here"]) (nt := 1) (caps := [4, 0]) comp_ok rfl (pi_range1 (by rfl) T.n_range (pa_cons (pe_callB (call_lenK (K := K) rfl) (by rfl) T.n_len PySem.boot_len (pa_cons (pv 0) pa_nil)) pa_nil)) (fun _ _ _ _ _ => (pg_name (i := 0) (show List.Nodup (α := Str) ["_law_k", "_law_word", "_law_words_here"] from by decide +kernel) rfl (Or.inl rfl))) gk_name (fun _ _ _ _ _ => (pts_one (pt_cmpR (op_eqK (K := K) rfl hr.units0) (pe_ix (ix_K (K := K) rfl) (pv 2) (pv 0) (fun _ _ => rfl)) (pv 1) (nomark _)))) (fun _ _ _ _ _ => (pv 0)))
      (pss_cons (ps_if (PW.pt (pw_or (pt_cmpR (op_eqK (K := K) rfl hr.units0) (pv 5) (pe_lst pa_nil) (nomark _)) (pw_or1 (pt_cmpR op_le (pe_ix (ix_K (K := K) rfl) (pv 5) pe_int (fun _ _ => rfl)) (pv 3) (nomark _))))) (pss_one (ps_ret pe_non)) pss_nil)
      (pss_cons (ps_set (i := 3) sc.nd rfl (Or.inl rfl) (pe_ix (ix_K (K := K) rfl) (pv 5) pe_int (fun _ _ => rfl)))
      (pss_one (ps_set (i := 2) sc.nd rfl (Or.inl rfl) (pe_op op_or (pv 2) (pe_op op_shl pe_int (pv 3)))))))))
      (pss_one (ps_ret (pv 2))))))), ?_⟩
    refine rdg (σ' := [some x0, some x1, none, none, none, none]) rfl ?_
    obtain ⟨p, ws, z, rfl, f1, hw, rfl, hz, hn, q1, q2⟩ := h
    walk_at "rd"
    have h8 := hw.few
    by_cases h0 : z = ("-" : Str)
    · rw [if_pos h0]
      exact q1 0 (by unfold Tx.rS; rw [if_pos (dash_iff.mpr h0)]) _ (Same.refl _)
    rw [if_neg h0]
    have h0 : ¬ _root_.PySem.Txt.split z "+" = [("-" : Str)] := fun e => h0 (dash_iff.mp e)
    have eR : ∀ o, (if (∀ w ∈ _root_.PySem.Txt.split z "+", w ∈ ws) ∧ ((_root_.PySem.Txt.split z "+").map fun w => ws.idxOf w).Pairwise (· < ·) then some (Fam.ofN ((_root_.PySem.Txt.split z "+").map fun w => ws.idxOf w)) else none) = o → Tx.rS ws z = o := fun o e => by
      unfold Tx.rS
      rw [if_neg h0]
      exact e
    refine ⟨rfl, z, _, rfl, rfl, by rw [Tx.lit_plus]; rfl, by omega, fun p1 hp1 => ?_⟩
    generalize _root_.PySem.Txt.split z "+" = P at hn h0 eR hp1 ⊢
    generalize g1 : upd H p1 _ = G1
    have a1 := new_at g1
    have s1 := new_sm g1 hp1
    refine ⟨p1, rfl, ⟨_, SqL.of a1⟩, loopLn (xs := sV P) (fun i σ H' => ∃ (v4 v5 : Option V) (la : Int), σ = [some (.ref p), some (.str z), some (.int (Fam.ofN ((P.take i).map fun w => ws.idxOf w) : Nat)), some (.int la), v4, v5] ∧ Same G1 H' ∧ (∀ w ∈ P.take i, w ∈ ws) ∧ ((P.take i).map fun w => ws.idxOf w).Pairwise (· < ·) ∧ (∀ k ∈ (P.take i).map (fun w => ws.idxOf w), (k : Int) ≤ la) ∧ (la = -1 ∨ ∃ k ∈ (P.take i).map (fun w => ws.idxOf w), la = (k : Nat))) ⟨none, none, -1, rfl, Same.refl _, fun w hw => (by cases hw), List.Pairwise.nil, fun k hk => (by cases hk), .inl rfl⟩ (fun i σ H' _ ⟨_, _, _, _, s, _⟩ => SqL.of (s _ _ a1)) ?_ ?_⟩
    · rintro i x σ H4 hx ⟨v4, v5, la, rfl, s4, m4, pw, le, ex⟩ N hN
      rw [List.getElem?_map] at hx
      cases eb : P[i]? with
      | none => rw [eb] at hx; cases hx
      | some w =>
        rw [eb] at hx
        cases hx
        have mw := List.mem_of_getElem? eb
        have f4 := s4 _ _ (s1 _ _ f1)
        have tk : P.take (i + 1) = P.take i ++ [w] := by rw [List.take_add_one, eb]; rfl
        (try walk_at "rd")
        refine ⟨_, .inl (SqL.of f4), ?_⟩
        rw [sV_len]
        refine ⟨by omega, by omega, ?_⟩
        rw [Int.toNat_natCast]
        refine compRs (fun k => decide (ws.getD k Str.empty = w)) (fun k => .int (k : Nat)) (by omega) (fun k hk H5 s5 R R' r1 r2 => ?_) fun H5 p5 s5 hp5 => ?_
        · (try walk_at "rd")
          have ek : ws[k]? = some (ws.getD k Str.empty) := by rw [List.getD_eq_getElem?_getD, List.getElem?_eq_getElem hk]; rfl
          refine ixX_l (SqL.of (s5 _ _ f4)) (atI_s ek) ?_
          (try walk_at "rd")
          by_cases e : ws.getD k Str.empty = w
          · rw [if_pos e]
            exact r1 (decide_eq_true e) _ (Same.refl _)
          · rw [if_neg e]
            exact r2 (decide_eq_false e) _ (Same.refl _)
        rw [places hw.nd]
        generalize g5 : upd H5 p5 _ = G5
        have a5 := new_at g5
        have s5 := s5.trans (new_sm g5 hp5)
        (try walk_at "rd")
        by_cases hm : w ∈ ws
        rotate_left
        · rw [if_neg hm] at a5
          refine ⟨small5 (by simp), fun p6 hp6 => eqX_l (SqL.of (Same.new hp6 _ _ a5)) (SqL.of upd_same) rfl rfl ⟨true, rfl, iteT ?_⟩⟩
          exact q2 (eR _ (if_neg fun y => hm (y.1 w mw))) _ (((s1.trans s4).trans s5).trans (Same.new hp6))
        rw [if_pos hm] at a5
        refine ⟨small5 (by simp), fun p6 hp6 => eqX_l (SqL.of (Same.new hp6 _ _ a5)) (SqL.of upd_same) rfl rfl ⟨false, rfl, iteF ?_⟩⟩
        generalize g6 : upd G5 p6 _ = G6
        have t6 := new_sm g6 hp6
        have a5 := t6 _ _ a5
        have s6 := s5.trans t6
        have hi := List.idxOf_lt_length_of_mem hm
        refine ixX_l (SqL.of a5) rfl ?_
        (try walk_at "rd")
        by_cases hle : (ws.idxOf w : Int) ≤ la
        · rw [if_pos hle]
          refine q2 (eR _ (if_neg fun y => ?_)) _ ((s1.trans s4).trans s6)
          rcases ex with e | ⟨k, hk, e⟩
          · rw [e] at hle
            omega
          · have hp : ((P.take (i + 1)).map fun w => ws.idxOf w).Pairwise (· < ·) := y.2.sublist ((List.take_sublist _ _).map _)
            rw [tk, List.map_append, List.pairwise_append] at hp
            have := hp.2.2 k hk (ws.idxOf w) (by simp)
            omega
        · rw [if_neg hle]
          refine ixX_l (SqL.of a5) rfl ?_
          (try walk_at "rd")
          refine ⟨cpow_of (by omega) (by omega) (by decide) (by decide), hN _ _ ⟨some (.str w), some (.ref p5), (ws.idxOf w : Nat), ?_, s4.trans s6, ?_, ?_, ?_, ?_⟩⟩
          · rw [tk, List.map_append, List.map_cons, List.map_nil, ofN_snoc, ← or_nat, shl_one]
          · intro w' hw'
            rw [tk] at hw'
            rcases List.mem_append.mp hw' with x | x
            · exact m4 w' x
            · rw [List.mem_singleton.mp x]
              exact hm
          · rw [tk, List.map_append, List.pairwise_append]
            refine ⟨pw, by simp, fun k hk j hj => ?_⟩
            have h1 := le k hk
            have h2 : j = ws.idxOf w := by simpa using hj
            omega
          · intro k hk
            rw [tk, List.map_append] at hk
            rcases List.mem_append.mp hk with x | x
            · have := le k x
              omega
            · have h2 : k = ws.idxOf w := by simpa using x
              omega
          · exact .inr ⟨ws.idxOf w, by rw [tk, List.map_append]; simp, rfl⟩
    · rintro σ H4 ⟨v4, v5, la, rfl, s4, m4, pw, le, ex⟩
      rw [sV_len, List.take_length] at m4 pw
      (try walk_at "rd")
      rw [sV_len, List.take_length]
      exact q1 _ (eR _ (if_pos ⟨m4, pw⟩)) _ (s1.trans s4)
abbrev s__law_read_family : Stmt := top 29
theorem sc__law_read_family : FnScope ["_law_words_here", "_law_text", "_law_found", "_law_k"] ["_law_words_here", "_law_text"] (defScope s__law_read_family) := ⟨rfl, rfl, rfl, by decide +kernel, rfl, by decide +kernel, by decide +kernel⟩
def spLRF (K : PySem.W.Frag) : Sp := sp2 fun x y H Q => ∃ (p : Addr) (ws : List Str) (z : Str), x = .ref p ∧ H p = some (.lst (sV ws)) ∧ Tx.Wds ws ∧ y = .str z ∧ z.length ≤ 10000 ∧ (_root_.PySem.Txt.split z " ").length ≤ 1000 ∧ (∀ q ∈ _root_.PySem.Txt.split z " ", (_root_.PySem.Txt.split q "+").length ≤ 1000) ∧ (∀ fs, Tx.rF ws z = some fs → ∀ p' H', H p' = none → Same H H' → H' p' = some (.lst (nV fs)) → Q (.ref p') H') ∧ (Tx.rF ws z = none → ∀ H', Same H H' → Q .non H')
set_option maxHeartbeats 4000000 in
theorem ok__law_read_family {f : Addr} {fd : FuncData} (F : Fun K "_law_read_family" "_law_read_family" s__law_read_family f fd) (T : Txt mg) {f__law_read_set : Addr} {fd__law_read_set : FuncData} (C__law_read_set : Cal P w K mg base "_law_read_set" 1 ["_law_words_here", "_law_text"] (spLRS K) f__law_read_set fd__law_read_set) : FnOk P w K mg base CX0 2 f fd ["_law_words_here", "_law_text"] (spLRF K) := by
  have sc := sc__law_read_family
  refine F.ok sc__law_read_family (fun vs H Q E h => ?_) (fun cdv A outer s H vs Q E hr h => ?_)
  · obtain ⟨_, _, rfl, _⟩ := h
    rfl
  · obtain ⟨x0, x1, rfl, h⟩ := h
    refine ⟨_, (pss_cons (ps_if (pt_cmpR (op_eqK (K := K) rfl hr.units0) (pv 1) pe_str (nomark _)) (pss_one (ps_ret (pe_lst pa_nil))) pss_nil)
      (pss_cons (ps_comp (i := 2) sc.nd rfl rfl (by rfl) (N := ["_law_part", "_law_words_here"]) (nt := 1) (caps := [0]) comp_ok rfl (pi_list (pe_bm PySem.F.plainAttrs_str PySem.F.slot_str_split PySem.F.type_str_split mt_split (pv 1) (pa_cons pe_str pa_nil))) (fun _ _ _ _ _ => (pg_name (i := 0) (show List.Nodup (α := Str) ["_law_part", "_law_words_here"] from by decide +kernel) rfl (Or.inl rfl))) gk_name (fun _ _ _ _ _ => pts_nil) (fun _ _ _ _ _ => (pe_cal C__law_read_set hr (by decide) (by rfl) (pa_cons (pv 1) (pa_cons (pv 0) pa_nil)))))
      (pss_cons (ps_if (PW.pt (pw_or (pt_cmpR (op_inK (K := K) rfl) pe_non (pv 2) (by with_unfolding_all rfl)) (pw_or1 (pt_cmpR op_gt (pe_callB (call_lenK (K := K) rfl) (by rfl) T.n_len PySem.boot_len (pa_cons (pv 2) pa_nil)) pe_int (nomark _))))) (pss_one (ps_ret pe_non)) pss_nil)
      (pss_cons (ps_for PassesOwn.never rfl (pi_range2 (by rfl) T.n_range (pa_cons pe_int (pa_cons (pe_callB (call_lenK (K := K) rfl) (by rfl) T.n_len PySem.boot_len (pa_cons (pv 2) pa_nil)) pa_nil))) (pg_name (i := 3) sc.nd rfl (Or.inl rfl)) (pss_one (ps_if (pt_cmpR op_le (pe_ix (ix_K (K := K) rfl) (pv 2) (pv 3) (fun _ _ => rfl)) (pe_ix (ix_K (K := K) rfl) (pv 2) (pe_op op_sub (pv 3) pe_int) (fun _ _ => rfl)) (nomark _)) (pss_one (ps_ret pe_non)) pss_nil)))
      (pss_one (ps_ret (pv 2))))))), ?_⟩
    refine rdg (σ' := [some x0, some x1, none, none]) rfl ?_
    obtain ⟨p, ws, z, rfl, f1, hw, rfl, hz, hn, hP, q1, q2⟩ := h
    walk_at "rd"
    have h8 := hw.few
    by_cases h0 : z = ("none" : Str)
    · rw [if_pos h0]
      exact ⟨small5 (by simp), fun p1 hp1 => q1 [] (by unfold Tx.rF; rw [if_pos (noneT_iff.mpr h0)]) _ _ hp1 (Same.new hp1) upd_same⟩
    rw [if_neg h0]
    have h0 : ¬ _root_.PySem.Txt.split z " " = [("none" : Str)] := fun e => h0 (noneT_iff.mp e)
    have pl := Tx.part_len z 32
    rw [← Tx.lit_space] at pl
    have eR : ∀ o, (if (∀ p ∈ _root_.PySem.Txt.split z " ", (Tx.rS ws p).isSome = true) ∧ ((_root_.PySem.Txt.split z " ").map fun p => (Tx.rS ws p).getD 0).length ≤ 70 ∧ ((_root_.PySem.Txt.split z " ").map fun p => (Tx.rS ws p).getD 0).Pairwise (· < ·) then some ((_root_.PySem.Txt.split z " ").map fun p => (Tx.rS ws p).getD 0) else none) = o → Tx.rF ws z = o := fun o e => by
      unfold Tx.rF
      rw [if_neg h0]
      exact e
    refine ⟨rfl, z, _, rfl, rfl, by rw [Tx.lit_space]; rfl, by omega, fun p1 hp1 => ?_⟩
    generalize _root_.PySem.Txt.split z " " = P at hn hP h0 eR hp1 pl ⊢
    generalize g1 : upd H p1 _ = G1
    have a1 := new_at g1
    have s1 := new_sm g1 hp1
    have lz : (sV P).length = P.length := sV_len _
    refine ⟨p1, rfl, ⟨_, SqL.of a1⟩, compLg (xs := sV P) (fun i ys H3 => Same G1 H3 ∧ ys = ((P.take i).map fun w => Tx.rS ws w).map vO) ⟨Same.refl _, rfl⟩ (by rw [lz]; exact small5 (by omega)) (fun i ys H3 hi ⟨s, e⟩ => ⟨SqL.of (s _ _ a1), by rw [e, List.length_map, List.length_map, List.length_take]; omega⟩) (fun i x ys H3 hx ⟨s3, e3⟩ R R' r1 r2 => ?_) fun ys H3 ⟨s3, e3⟩ p3 hp3 => ?_⟩
    · rw [List.getElem?_map] at hx
      cases eb : P[i]? with
      | none => rw [eb] at hx; cases hx
      | some w =>
        rw [eb] at hx
        cases hx
        have mw := List.mem_of_getElem? eb
        have tk : P.take (i + 1) = P.take i ++ [w] := by rw [List.take_add_one, eb]; rfl
        (try walk_at "rd")
        refine ⟨_, _, rfl, p, ws, w, rfl, s3 _ _ (s1 _ _ f1), hw, rfl, Nat.le_trans (pl w mw) hz, hP w mw, fun a ha H4 s4 => r1 _ _ ⟨s3.trans s4, ?_⟩, fun ha H4 s4 => r1 _ _ ⟨s3.trans s4, ?_⟩⟩
        · rw [e3, tk, List.map_append, List.map_append, List.map_cons, ha]
          rfl
        · rw [e3, tk, List.map_append, List.map_append, List.map_cons, ha]
          rfl
    rw [lz, List.take_length] at e3
    subst e3
    generalize g3 : upd H3 p3 _ = G3
    have a3 := new_at g3
    have t3 := new_sm g3 hp3
    have s3 := (s1.trans s3).trans t3
    refine ⟨p3, rfl, _, .inl (SqL.of a3), rfl, vO_flat _, ?_⟩
    rw [vO_non]
    by_cases hno : none ∈ P.map fun w => Tx.rS ws w
    · rw [if_pos (decide_eq_true hno)]
      refine q2 (eR _ (if_neg fun y => ?_)) _ s3
      obtain ⟨w, hw', e⟩ := List.mem_map.mp hno
      have := y.1 w hw'
      rw [e] at this
      cases this
    rw [if_neg (by rw [decide_eq_false hno]; decide)]
    rw [vO_some hno, List.map_map] at a3
    have hall : ∀ w ∈ P, (Tx.rS ws w).isSome = true := fun w hw' => by
      cases e : Tx.rS ws w with
      | none => exact absurd (List.mem_map.mpr ⟨w, hw', e⟩) hno
      | some b => rfl
    have eR : ∀ o, (if (P.map fun p => (Tx.rS ws p).getD 0).length ≤ 70 ∧ (P.map fun p => (Tx.rS ws p).getD 0).Pairwise (· < ·) then some (P.map fun p => (Tx.rS ws p).getD 0) else none) = o → Tx.rF ws z = o := fun o e => eR o (by
      rw [← e]
      by_cases c : (P.map fun p => (Tx.rS ws p).getD 0).length ≤ 70 ∧ (P.map fun p => (Tx.rS ws p).getD 0).Pairwise (· < ·)
      · rw [if_pos c, if_pos ⟨hall, c⟩]
      · rw [if_neg c, if_neg fun y => c y.2])
    have a3 : G3 p3 = some (.lst (nV (P.map fun p => (Tx.rS ws p).getD 0))) := a3
    generalize P.map (fun p => (Tx.rS ws p).getD 0) = fs at a3 eR
    refine ⟨p3, rfl, _, .inl (SqL.of a3), ?_⟩
    rw [nV_len]
    by_cases h70 : fs.length ≤ 70
    rotate_left
    · rw [if_pos (by omega)]
      exact q2 (eR _ (if_neg fun y => h70 y.1)) _ s3
    rw [if_neg (by omega)]
    refine ⟨p3, rfl, _, .inl (SqL.of a3), 1, _, ⟨rfl, rfl⟩, by rw [nV_len]; exact ⟨by decide, by decide, by omega, by omega⟩, ?_⟩
    rw [nV_len, show ((fs.length : Int) - 1).toNat = fs.length - 1 by omega]
    refine loopFn (fun i σ H' => ∃ v, σ = [some (.ref p), some (.str z), some (.ref p3), v] ∧ Same G3 H' ∧ (fs.take (i + 1)).Pairwise (· < ·)) ⟨none, rfl, Same.refl _, ?_⟩ ?_ ?_
    · cases fs with
      | nil => exact List.Pairwise.nil
      | cons x r => simp
    · rintro i σ H4 hi ⟨v, rfl, s4, pw⟩ N hN
      have e1 := List.getElem?_eq_getElem (show i < fs.length by omega)
      have e2 := List.getElem?_eq_getElem (show i + 1 < fs.length by omega)
      have a4 := s4 _ _ a3
      (try walk_at "rd")
      rw [show (1 : Int) + (i : Int) = ((i + 1 : Nat) : Int) by omega]
      refine ixX_l (SqL.of a4) (atI_n e2) ?_
      (try walk_at "rd")
      rw [show ((i + 1 : Nat) : Int) - 1 = (i : Int) by omega]
      refine ixX_l (SqL.of a4) (atI_n e1) ?_
      (try walk_at "rd")
      by_cases hle : fs[i + 1] ≤ fs[i]
      · rw [if_pos (by omega)]
        refine q2 (eR _ (if_neg fun y => ?_)) _ (s3.trans s4)
        have := (pw_snoc pw e1 e2).mp (y.2.sublist (List.take_sublist _ _))
        omega
      · rw [if_neg (by omega)]
        exact hN _ _ ⟨_, rfl, s4, (pw_snoc pw e1 e2).mpr (by omega)⟩
    · rintro σ H4 ⟨v, rfl, s4, pw⟩
      rw [List.take_of_length_le (by omega)] at pw
      (try walk_at "rd")
      exact q1 fs (eR _ (if_pos ⟨h70, pw⟩)) p3 _ (old_none (s1.trans ‹_›) hp3) (s3.trans s4) (s4 _ _ a3)
abbrev s__law_due : Stmt := top 30
theorem sc__law_due : FnScope ["_law_words_here", "_law_text", "_law_of_set", "_law_found"] ["_law_words_here", "_law_text", "_law_of_set"] (defScope s__law_due) := ⟨rfl, rfl, rfl, by decide +kernel, rfl, by decide +kernel, by decide +kernel⟩
/-- what is told of a text, as a set's or a family's -/
def Tld (ws : List Str) (c : Bool) (z : Str) (H H' : Hp) (v : V) : Prop := if c = true then (match Tx.rS ws z with
    | some a => ∃ t, v = .ref t ∧ H t = none ∧ H' t = some (.tup [.str "told", .int (a : Nat)])
    | none => v = .str "refused") else (match Tx.rF ws z with
    | some fs => ∃ t p', v = .ref t ∧ H t = none ∧ H p' = none ∧ t ≠ p' ∧ H' p' = some (.lst (nV fs)) ∧ H' t = some (.tup [.str "told", .ref p'])
    | none => v = .str "refused")
def Fit (c : Bool) (z : Str) : Prop := z.length ≤ 10000 ∧ if c = true then (_root_.PySem.Txt.split z "+").length ≤ 1000 else (_root_.PySem.Txt.split z " ").length ≤ 1000 ∧ ∀ q ∈ _root_.PySem.Txt.split z " ", (_root_.PySem.Txt.split q "+").length ≤ 1000
def spTe (K : PySem.W.Frag) : Sp := sp3 fun x y u H Q => ∃ (p : Addr) (ws : List Str) (c : Bool), x = .ref p ∧ H p = some (.lst (sV ws)) ∧ Tx.Wds ws ∧ u = .bl c ∧ ((∃ z : Str, y = .str z ∧ Fit c z ∧ ∀ v H', Same H H' → Tld ws c z H H' v → Q v H') ∨ ∃ t, kdOf H y = some t ∧ t ≠ "str" ∧ ∀ H', Same H H' → Q (.str "refused") H')
set_option maxHeartbeats 4000000 in
theorem ok__law_due {f : Addr} {fd : FuncData} (F : Fun K "_law_due" "_law_due" s__law_due f fd) (T : Txt mg) {f__law_read_set : Addr} {fd__law_read_set : FuncData} (C__law_read_set : Cal P w K mg base "_law_read_set" 1 ["_law_words_here", "_law_text"] (spLRS K) f__law_read_set fd__law_read_set) {f__law_read_family : Addr} {fd__law_read_family : FuncData} (C__law_read_family : Cal P w K mg base "_law_read_family" 2 ["_law_words_here", "_law_text"] (spLRF K) f__law_read_family fd__law_read_family) : FnOk P w K mg base CX0 3 f fd ["_law_words_here", "_law_text", "_law_of_set"] (spTe K) := by
  have sc := sc__law_due
  refine F.ok sc__law_due (fun vs H Q E h => ?_) (fun cdv A outer s H vs Q E hr h => ?_)
  · obtain ⟨_, _, _, rfl, _⟩ := h
    rfl
  · obtain ⟨x0, x1, x2, rfl, h⟩ := h
    refine ⟨_, (pss_cons (ps_set (i := 3) sc.nd rfl (Or.inl rfl) pe_non)
      (pss_cons (ps_if (PW.pt (pw_and (pt_val (pe_callB call_isinst (by rfl) T.n_isinstance PyProof.Rows.boot_isinstance (pa_cons (pv 1) (pa_cons (pe_bltn (v := .ty "str") (by rfl) T.n_str PyProof.Rows.boot_str rfl) pa_nil)))) (pw_and1 (pt_val (pv 2))))) (pss_one (ps_set (i := 3) sc.nd rfl (Or.inl rfl) (pe_cal C__law_read_set hr (by decide) (by rfl) (pa_cons (pv 0) (pa_cons (pv 1) pa_nil))))) (pss_one (ps_if (pt_val (pe_callB call_isinst (by rfl) T.n_isinstance PyProof.Rows.boot_isinstance (pa_cons (pv 1) (pa_cons (pe_bltn (v := .ty "str") (by rfl) T.n_str PyProof.Rows.boot_str rfl) pa_nil)))) (pss_one (ps_set (i := 3) sc.nd rfl (Or.inl rfl) (pe_cal C__law_read_family hr (by decide) (by rfl) (pa_cons (pv 0) (pa_cons (pv 1) pa_nil))))) pss_nil)))
      (pss_one (ps_ret (pe_ix (ix_K (K := K) rfl) (pe_lst (pa_cons (pe_tup (pa_cons pe_str (pa_cons (pv 3) pa_nil))) (pa_cons pe_str pa_nil))) (pe_callTy call_int1 (by rfl) T.n_int PyProof.Rows.boot_int (pa_cons (pe_cmpR op_isP (pv 3) pe_non (nomark _)) pa_nil)) (fun _ _ => rfl)))))), ?_⟩
    refine rdg (σ' := [some x0, some x1, some x2, none]) rfl ?_
    obtain ⟨p, ws, c, rfl, f1, hw, rfl, h⟩ := h
    rcases h with ⟨z, rfl, ⟨fz, ff⟩, q⟩ | ⟨t, hk, hne, q⟩
    · cases c with
      | true =>
        cases e : Tx.rS ws z with
        | some a =>
          (try walk_at "rd")
          refine seqCut (fun σ' H' => σ' = [some (.ref p), some (.str z), some (.bl true), some (.int (a : Nat))] ∧ Same H H') ?_ fun N hN => ?_
          rotate_left
          · (try walk_at "rd")
            refine ⟨_, "str", ⟨rfl, rfl⟩, "str", rfl, by decide, ?_⟩
            rw [if_pos (by decide)]
            exact ⟨_, _, rfl, p, ws, z, rfl, f1, hw, rfl, fz, ff, fun a ea H1 s1 => (by rw [e] at ea; cases ea; exact hN _ _ ⟨rfl, s1⟩), fun en H1 s1 => (by rw [e] at en; cases en)⟩
          rintro σ' H1 ⟨rfl, s1⟩
          (try walk_at "rd")
          refine ⟨small5 (by simp), fun t1 ht1 => ⟨small5 (by simp), fun l1 hl1 => ?_⟩⟩
          generalize g2 : upd H1 t1 _ = G2 at hl1 ⊢
          have a2 := new_at g2
          have s2 := new_sm g2 ht1
          generalize g3 : upd G2 l1 _ = G3
          have a3 := new_at g3
          have s3 := new_sm g3 hl1
          refine ⟨rfl, ixX_l (SqL.of a3) rfl ?_⟩
          exact q _ _ ((s1.trans s2).trans s3) (by unfold Tld; rw [if_pos rfl, e]; exact ⟨t1, rfl, old_none s1 ht1, s3 _ _ a2⟩)
        | none =>
          (try walk_at "rd")
          refine seqCut (fun σ' H' => σ' = [some (.ref p), some (.str z), some (.bl true), some .non] ∧ Same H H') ?_ fun N hN => ?_
          rotate_left
          · (try walk_at "rd")
            refine ⟨_, "str", ⟨rfl, rfl⟩, "str", rfl, by decide, ?_⟩
            rw [if_pos (by decide)]
            exact ⟨_, _, rfl, p, ws, z, rfl, f1, hw, rfl, fz, ff, fun a ea H1 s1 => (by rw [e] at ea; cases ea), fun en H1 s1 => (hN _ _ ⟨rfl, s1⟩)⟩
          rintro σ' H1 ⟨rfl, s1⟩
          (try walk_at "rd")
          refine ⟨small5 (by simp), fun t1 ht1 => ⟨small5 (by simp), fun l1 hl1 => ?_⟩⟩
          generalize g2 : upd H1 t1 _ = G2 at hl1 ⊢
          have a2 := new_at g2
          have s2 := new_sm g2 ht1
          generalize g3 : upd G2 l1 _ = G3
          have a3 := new_at g3
          have s3 := new_sm g3 hl1
          refine ⟨rfl, ixX_l (SqL.of a3) rfl ?_⟩
          exact q _ _ ((s1.trans s2).trans s3) (by unfold Tld; rw [if_pos rfl, e])
      | false =>
        cases e : Tx.rF ws z with
        | some gs =>
          (try walk_at "rd")
          refine seqCut (fun σ' H' => ∃ p1 : Addr, σ' = [some (.ref p), some (.str z), some (.bl false), some (.ref p1)] ∧ Same H H' ∧ H p1 = none ∧ H' p1 = some (.lst (nV gs))) ?_ fun N hN => ?_
          rotate_left
          · (try walk_at "rd")
            refine ⟨_, "str", ⟨rfl, rfl⟩, "str", rfl, by decide, ?_⟩
            rw [if_pos (by decide)]
            refine ⟨_, "str", ⟨rfl, rfl⟩, "str", rfl, by decide, ?_⟩
            exact iteT ⟨_, _, rfl, p, ws, z, rfl, f1, hw, rfl, fz, ff.1, ff.2, fun fs ea p' H1 hp' s1 a1 => (by rw [e] at ea; cases ea; exact hN _ _ ⟨p', rfl, s1, hp', a1⟩), fun en H1 s1 => (by rw [e] at en; cases en)⟩
          rintro σ' H1 ⟨p1, rfl, s1, hp1, b1⟩
          (try walk_at "rd")
          refine ⟨small5 (by simp), fun t1 ht1 => ⟨small5 (by simp), fun l1 hl1 => ?_⟩⟩
          generalize g2 : upd H1 t1 _ = G2 at hl1 ⊢
          have a2 := new_at g2
          have s2 := new_sm g2 ht1
          generalize g3 : upd G2 l1 _ = G3
          have a3 := new_at g3
          have s3 := new_sm g3 hl1
          refine ⟨rfl, ixX_l (SqL.of a3) rfl ?_⟩
          exact q _ _ ((s1.trans s2).trans s3) (by unfold Tld; rw [if_neg (by decide), e]; exact ⟨t1, p1, rfl, old_none s1 ht1, hp1, fun e => (by rw [e, b1] at ht1; cases ht1), s3 _ _ (s2 _ _ b1), s3 _ _ a2⟩)
        | none =>
          (try walk_at "rd")
          refine seqCut (fun σ' H' => σ' = [some (.ref p), some (.str z), some (.bl false), some .non] ∧ Same H H') ?_ fun N hN => ?_
          rotate_left
          · (try walk_at "rd")
            refine ⟨_, "str", ⟨rfl, rfl⟩, "str", rfl, by decide, ?_⟩
            rw [if_pos (by decide)]
            refine ⟨_, "str", ⟨rfl, rfl⟩, "str", rfl, by decide, ?_⟩
            exact iteT ⟨_, _, rfl, p, ws, z, rfl, f1, hw, rfl, fz, ff.1, ff.2, fun fs ea p' H1 hp' s1 a1 => (by rw [e] at ea; cases ea), fun en H1 s1 => (hN _ _ ⟨rfl, s1⟩)⟩
          rintro σ' H1 ⟨rfl, s1⟩
          (try walk_at "rd")
          refine ⟨small5 (by simp), fun t1 ht1 => ⟨small5 (by simp), fun l1 hl1 => ?_⟩⟩
          generalize g2 : upd H1 t1 _ = G2 at hl1 ⊢
          have a2 := new_at g2
          have s2 := new_sm g2 ht1
          generalize g3 : upd G2 l1 _ = G3
          have a3 := new_at g3
          have s3 := new_sm g3 hl1
          refine ⟨rfl, ixX_l (SqL.of a3) rfl ?_⟩
          exact q _ _ ((s1.trans s2).trans s3) (by unfold Tld; rw [if_neg (by decide), e])
    · (try walk_at "rd")
      refine seqCut (fun σ' H' => σ' = [some (.ref p), some (x1), some (.bl c), some .non] ∧ Same H H') ?_ fun N hN => ?_
      rotate_left
      · (try walk_at "rd")
        refine ⟨_, "str", ⟨rfl, rfl⟩, t, hk, by decide, ?_⟩
        rw [sub_str hne, if_neg (by decide)]
        refine ⟨_, "str", ⟨rfl, rfl⟩, t, hk, by decide, ?_⟩
        rw [sub_str hne]
        exact iteF (hN _ _ ⟨rfl, Same.refl _⟩)
      rintro σ' H1 ⟨rfl, s1⟩
      (try walk_at "rd")
      refine ⟨small5 (by simp), fun t1 ht1 => ⟨small5 (by simp), fun l1 hl1 => ?_⟩⟩
      generalize g2 : upd H1 t1 _ = G2 at hl1 ⊢
      have a2 := new_at g2
      have s2 := new_sm g2 ht1
      generalize g3 : upd G2 l1 _ = G3
      have a3 := new_at g3
      have s3 := new_sm g3 hl1
      refine ⟨rfl, ixX_l (SqL.of a3) rfl ?_⟩
      exact q _ ((s1.trans s2).trans s3)
abbrev s__law_told : Stmt := top 31
theorem sc__law_told : FnScope ["_law_words_here", "_law_text", "_law_of_set", "_law_caught", "_law_found", "e"] ["_law_words_here", "_law_text", "_law_of_set"] (defScope s__law_told) := ⟨rfl, rfl, rfl, by decide +kernel, rfl, by decide +kernel, by decide +kernel⟩
set_option maxHeartbeats 4000000 in
theorem ok__law_told {f : Addr} {fd : FuncData} (F : Fun K "_law_told" "_law_told" s__law_told f fd) (T : Txt mg) {cX cH cF cD cN cT : Addr} (Z : Xt K mg cX cH cF cD cN cT) {f_read_set : Addr} {fd_read_set : FuncData} (C_read_set : CalX P w K mg base "read_set" 2 ["words", "text"] (spReadSet K cX) f_read_set fd_read_set) {f_read_family : Addr} {fd_read_family : FuncData} (C_read_family : CalX P w K mg base "read_family" 4 ["words", "text"] (spReadFam K cX) f_read_family fd_read_family) : FnOk P w K mg base CX0 5 f fd ["_law_words_here", "_law_text", "_law_of_set"] (spTe K) := by
  have sc := sc__law_told
  refine F.ok sc__law_told (fun vs H Q E h => ?_) (fun cdv A outer s H vs Q E hr h => ?_)
  · obtain ⟨_, _, _, rfl, _⟩ := h
    rfl
  · obtain ⟨x0, x1, x2, rfl, h⟩ := h
    refine ⟨_, (pss_cons (ps_set (i := 3) sc.nd rfl (Or.inl rfl) pe_non)
      (pss_cons (ps_set (i := 4) sc.nd rfl (Or.inl rfl) pe_non)
      (pss_cons (ps_tryX (i := 5) (C := cX) sc.nd rfl rfl rfl rfl (by rfl) Z.gH Z.xH Z.beH Z.suH
        (fun pins xe E hp => (pss_one (ps_if (pt_val (pv 2)) (pss_one (ps_set (i := 4) sc.nd rfl (Or.inl rfl) (pe_calX C_read_set hr (by decide) (by rfl) hp.passes (pa_cons (pv 0) (pa_cons (pv 1) pa_nil))))) (pss_one (ps_set (i := 4) sc.nd rfl (Or.inl rfl) (pe_calX C_read_family hr (by decide) (by rfl) hp.passes (pa_cons (pv 0) (pa_cons (pv 1) pa_nil))))))))
        (fun pins e => (pss_one (ps_set (i := 3) sc.nd rfl (Or.inl rfl) (pv 5)))))
      (pss_cons (ps_if (pt_cmpR op_isP (pv 3) pe_non (nomark _)) (pss_one (ps_ret (pe_tup (pa_cons pe_str (pa_cons (pv 4) pa_nil))))) pss_nil)
      (pss_cons (ps_if (PW.pt (pw_or (pt_not (pt_val (pe_callB (call_isX (K := K) rfl Z.kit) (by rfl) T.n_isinstance PyProof.Rows.boot_isinstance (pa_cons (pv 3) (pa_cons (pe_glob (v := .ref cX) (by rfl) Z.gX rfl) pa_nil))))) (pw_or1 (pt_not (pt_val (pe_callB (call_isX (K := K) rfl Z.kit) (by rfl) T.n_isinstance PyProof.Rows.boot_isinstance (pa_cons (pv 3) (pa_cons (pe_bltn (v := .ty "ValueError") (by rfl) T.n_ValueError PyProof.Rows.Boot.«ValueError» rfl) pa_nil)))))))) (pss_one (ps_ret pe_str)) pss_nil)
      (pss_one (ps_ret (pe_ix (ix_K (K := K) rfl) (pe_lst (pa_cons pe_str (pa_cons pe_str pa_nil))) (pe_callTy call_int1 (by rfl) T.n_int PyProof.Rows.boot_int (pa_cons (pe_callB (call_isX (K := K) rfl Z.kit) (by rfl) T.n_isinstance PyProof.Rows.boot_isinstance (pa_cons (pv 3) (pa_cons (pe_tup (pa_cons (pe_glob (v := .ref cF) (by rfl) Z.gF rfl) (pa_cons (pe_glob (v := .ref cD) (by rfl) Z.gD rfl) (pa_cons (pe_glob (v := .ref cN) (by rfl) Z.gN rfl) (pa_cons (pe_glob (v := .ref cT) (by rfl) Z.gT rfl) pa_nil))))) pa_nil))) pa_nil)) (fun _ _ => rfl))))))))), ?_⟩
    refine rdg (σ' := [some x0, some x1, some x2, none, none, none]) rfl ?_
    obtain ⟨p, ws, c, rfl, f1, hw, rfl, h⟩ := h
    rcases h with ⟨z, rfl, ⟨fz, ff⟩, q⟩ | ⟨t, hk, hne, q⟩
    · cases c with
      | true =>
        walk_at "rd"
        refine ⟨_, _, rfl, p, ws, rfl, f1, hw, .inl ⟨z, rfl, fz, ff, fun a ea H1 s1 => ?_, fun en H1 s1 => ⟨rfl, fun e σ' hl he => ?_⟩⟩⟩
        · (try walk_at "rd")
          exact ⟨rfl, small5 (by simp), fun t ht => q _ _ (s1.trans (Same.new ht)) (by unfold Tld; rw [if_pos rfl, ea]; exact ⟨t, rfl, old_none s1 ht, upd_same⟩)⟩
        · obtain ⟨a0, a1, a2, a3, a4, a5, rfl⟩ : ∃ a0 a1 a2 a3 a4 a5, σ' = [a0, a1, a2, a3, a4, a5] := by
            match σ', hl with
            | [a0, a1, a2, a3, a4, a5], _ => exact ⟨a0, a1, a2, a3, a4, a5, rfl⟩
          (try walk_at "rd")
          generalize ge : upd H1 e _ = G1
          have b1 : G1 e = some (XO e cX) := new_at ge
          have s1' : Same H1 G1 := new_sm ge he
          refine ⟨rfl, e, _, true, rfl, b1, .inr (.inl ⟨cX, rfl, kit_self⟩), true, rfl, ?_⟩
          rw [if_neg (by decide)]
          refine ⟨e, _, true, rfl, b1, .inl ⟨"ValueError", rfl, Z.i1⟩, true, rfl, ?_⟩
          rw [if_neg (by decide)]
          refine ⟨small5 (by simp), fun pl hpl => ⟨small5 (by simp), fun pt hpt => ?_⟩⟩
          generalize gl : upd G1 pl _ = G2 at hpt ⊢
          have b2 := new_at gl
          have s2 := new_sm gl hpl
          generalize gt : upd G2 pt _ = G3
          have b3 := new_at gt
          have s3 := new_sm gt hpt
          refine ⟨e, _, false, rfl, s3 _ _ (s2 _ _ b1), .inr (.inr ⟨pt, [cF, cD, cN, cT], rfl, b3, Z.i2⟩), .inr ⟨false, rfl, ixX_l (SqL.of (s3 _ _ b2)) rfl ?_⟩⟩
          exact q _ _ (((s1.trans s1').trans s2).trans s3) (by unfold Tld; rw [if_pos rfl, en])
      | false =>
        walk_at "rd"
        refine ⟨_, _, rfl, p, ws, rfl, f1, hw, .inl ⟨z, rfl, fz, ff.1, ff.2, fun fs ea p' H1 hp' s1 c1 => ?_, fun en H1 s1 => ⟨rfl, fun e σ' hl he => ?_⟩⟩⟩
        · (try walk_at "rd")
          exact ⟨rfl, small5 (by simp), fun t ht => q _ _ (s1.trans (Same.new ht)) (by unfold Tld; rw [if_neg (by decide), ea]; exact ⟨t, p', rfl, old_none s1 ht, hp', fun e => (by rw [e, c1] at ht; cases ht), Same.new ht _ _ c1, upd_same⟩)⟩
        · obtain ⟨a0, a1, a2, a3, a4, a5, rfl⟩ : ∃ a0 a1 a2 a3 a4 a5, σ' = [a0, a1, a2, a3, a4, a5] := by
            match σ', hl with
            | [a0, a1, a2, a3, a4, a5], _ => exact ⟨a0, a1, a2, a3, a4, a5, rfl⟩
          (try walk_at "rd")
          generalize ge : upd H1 e _ = G1
          have b1 : G1 e = some (XO e cX) := new_at ge
          have s1' : Same H1 G1 := new_sm ge he
          refine ⟨rfl, e, _, true, rfl, b1, .inr (.inl ⟨cX, rfl, kit_self⟩), true, rfl, ?_⟩
          rw [if_neg (by decide)]
          refine ⟨e, _, true, rfl, b1, .inl ⟨"ValueError", rfl, Z.i1⟩, true, rfl, ?_⟩
          rw [if_neg (by decide)]
          refine ⟨small5 (by simp), fun pl hpl => ⟨small5 (by simp), fun pt hpt => ?_⟩⟩
          generalize gl : upd G1 pl _ = G2 at hpt ⊢
          have b2 := new_at gl
          have s2 := new_sm gl hpl
          generalize gt : upd G2 pt _ = G3
          have b3 := new_at gt
          have s3 := new_sm gt hpt
          refine ⟨e, _, false, rfl, s3 _ _ (s2 _ _ b1), .inr (.inr ⟨pt, [cF, cD, cN, cT], rfl, b3, Z.i2⟩), .inr ⟨false, rfl, ixX_l (SqL.of (s3 _ _ b2)) rfl ?_⟩⟩
          exact q _ _ (((s1.trans s1').trans s2).trans s3) (by unfold Tld; rw [if_neg (by decide), en])
    · cases c with
      | true =>
        walk_at "rd"
        refine ⟨_, _, rfl, p, ws, rfl, f1, hw, .inr ⟨t, hk, hne, rfl, fun e σ' hl he => ?_⟩⟩
        obtain ⟨a0, a1, a2, a3, a4, a5, rfl⟩ : ∃ a0 a1 a2 a3 a4 a5, σ' = [a0, a1, a2, a3, a4, a5] := by
          match σ', hl with
          | [a0, a1, a2, a3, a4, a5], _ => exact ⟨a0, a1, a2, a3, a4, a5, rfl⟩
        (try walk_at "rd")
        generalize ge : upd H e _ = G1
        have b1 : G1 e = some (XO e cX) := new_at ge
        have s1' : Same H G1 := new_sm ge he
        refine ⟨rfl, e, _, true, rfl, b1, .inr (.inl ⟨cX, rfl, kit_self⟩), true, rfl, ?_⟩
        rw [if_neg (by decide)]
        refine ⟨e, _, true, rfl, b1, .inl ⟨"ValueError", rfl, Z.i1⟩, true, rfl, ?_⟩
        rw [if_neg (by decide)]
        refine ⟨small5 (by simp), fun pl hpl => ⟨small5 (by simp), fun pt hpt => ?_⟩⟩
        generalize gl : upd G1 pl _ = G2 at hpt ⊢
        have b2 := new_at gl
        have s2 := new_sm gl hpl
        generalize gt : upd G2 pt _ = G3
        have b3 := new_at gt
        have s3 := new_sm gt hpt
        refine ⟨e, _, false, rfl, s3 _ _ (s2 _ _ b1), .inr (.inr ⟨pt, [cF, cD, cN, cT], rfl, b3, Z.i2⟩), .inr ⟨false, rfl, ixX_l (SqL.of (s3 _ _ b2)) rfl ?_⟩⟩
        exact q _ ((s1'.trans s2).trans s3)
      | false =>
        walk_at "rd"
        refine ⟨_, _, rfl, p, ws, rfl, f1, hw, .inr ⟨t, hk, hne, rfl, fun e σ' hl he => ?_⟩⟩
        obtain ⟨a0, a1, a2, a3, a4, a5, rfl⟩ : ∃ a0 a1 a2 a3 a4 a5, σ' = [a0, a1, a2, a3, a4, a5] := by
          match σ', hl with
          | [a0, a1, a2, a3, a4, a5], _ => exact ⟨a0, a1, a2, a3, a4, a5, rfl⟩
        (try walk_at "rd")
        generalize ge : upd H e _ = G1
        have b1 : G1 e = some (XO e cX) := new_at ge
        have s1' : Same H G1 := new_sm ge he
        refine ⟨rfl, e, _, true, rfl, b1, .inr (.inl ⟨cX, rfl, kit_self⟩), true, rfl, ?_⟩
        rw [if_neg (by decide)]
        refine ⟨e, _, true, rfl, b1, .inl ⟨"ValueError", rfl, Z.i1⟩, true, rfl, ?_⟩
        rw [if_neg (by decide)]
        refine ⟨small5 (by simp), fun pl hpl => ⟨small5 (by simp), fun pt hpt => ?_⟩⟩
        generalize gl : upd G1 pl _ = G2 at hpt ⊢
        have b2 := new_at gl
        have s2 := new_sm gl hpl
        generalize gt : upd G2 pt _ = G3
        have b3 := new_at gt
        have s3 := new_sm gt hpt
        refine ⟨e, _, false, rfl, s3 _ _ (s2 _ _ b1), .inr (.inr ⟨pt, [cF, cD, cN, cT], rfl, b3, Z.i2⟩), .inr ⟨false, rfl, ixX_l (SqL.of (s3 _ _ b2)) rfl ?_⟩⟩
        exact q _ ((s1'.trans s2).trans s3)
abbrev s__law_too_many : Stmt := top 32
theorem sc__law_too_many : FnScope ["_law_script", "_law_names", "_law_first", "_law_some"] ["_law_script"] (defScope s__law_too_many) := ⟨rfl, rfl, rfl, by decide +kernel, rfl, by decide +kernel, by decide +kernel⟩
abbrev wsH : List Str := [("a" : Str), ("b" : Str), ("c" : Str), ("d" : Str), ("e" : Str), ("f" : Str), ("g" : Str), ("h" : Str)]
theorem wdsH : Tx.Wds wsH := ⟨by decide, by decide +kernel, by unfold Tx.Wd; decide +kernel, by decide +kernel⟩
def spTM (K : PySem.W.Frag) : Sp := sp1 fun x H Q => ∃ (a : Addr) (ns : List Int), x = .ref a ∧ SqL K H a (ns.map V.int) ∧ ns.length ≤ 63 ∧ ∀ H', Same H H' → Q (.bl true) H'
set_option maxHeartbeats 4000000 in
theorem ok__law_too_many {f : Addr} {fd : FuncData} (F : Fun K "_law_too_many" "_law_too_many" s__law_too_many f fd) (T : Txt mg) {cX cH cF cD cN cT : Addr} (Z : Xt K mg cX cH cF cD cN cT) {f__law_at : Addr} {fd__law_at : FuncData} (C__law_at : Cal P w K mg base "_law_at" 1 ["_law_script", "_law_k"] (spCell K) f__law_at fd__law_at) {f__law_set_text : Addr} {fd__law_set_text : FuncData} (C__law_set_text : Cal P w K mg base "_law_set_text" 1 ["_law_words_here", "_law_one"] (spLSetT K) f__law_set_text fd__law_set_text) {f__law_told : Addr} {fd__law_told : FuncData} (C__law_told : Cal P w K mg base "_law_told" 5 ["_law_words_here", "_law_text", "_law_of_set"] (spTe K) f__law_told fd__law_told) : FnOk P w K mg base CX0 6 f fd ["_law_script"] (spTM K) := by
  have sc := sc__law_too_many
  refine F.ok sc__law_too_many (fun vs H Q E h => ?_) (fun cdv A outer s H vs Q E hr h => ?_)
  · obtain ⟨_, rfl, _⟩ := h
    rfl
  · obtain ⟨x0, rfl, h⟩ := h
    refine ⟨_, (pss_cons (ps_set (i := 1) sc.nd rfl (Or.inr rfl) (pe_lst (pa_consC pe_str (pa_consC pe_str (pa_consC pe_str (pa_consC pe_str (pa_consC pe_str (pa_consC pe_str (pa_consC pe_str (pa_consC pe_str pa_nil))))))))))
      (pss_cons (ps_set (i := 2) sc.nd rfl (Or.inr rfl) (pe_op op_mod (pe_cal C__law_at hr (by decide) (by rfl) (pa_cons (pv 0) (pa_cons pe_int pa_nil))) pe_int))
      (pss_cons (ps_comp (i := 3) sc.nd rfl rfl (by rfl) (N := ["_law_k", "_law_names", "_law_first"]) (nt := 1) (caps := [1, 2]) comp_ok rfl (pi_range1 (by rfl) T.n_range (pa_cons pe_int pa_nil)) (fun _ _ _ _ _ => (pg_name (i := 0) (show List.Nodup (α := Str) ["_law_k", "_law_names", "_law_first"] from by decide +kernel) rfl (Or.inl rfl))) gk_name (fun _ _ _ _ _ => pts_nil) (fun _ _ _ _ _ => (pe_cal C__law_set_text hr (by decide) (by rfl) (pa_cons (pv 1) (pa_cons (pe_op op_add (pv 2) (pv 0)) pa_nil)))))
      (pss_cons (ps_if (pt_cmpR (op_neM (K := K) rfl hr.units0 hr.units) (pe_cal C__law_told hr (by decide) (by rfl) (pa_cons (pv 1) (pa_cons (pe_bm PySem.F.plainAttrs_str PySem.F.slot_str_join PySem.F.type_str_join (mt_join (K := K) rfl) pe_str (pa_cons (pv 3) pa_nil)) (pa_cons pe_bl pa_nil)))) pe_str (nomark _)) (pss_one (ps_ret pe_bl)) pss_nil)
      (pss_one (ps_ret (pe_cmpR (op_eqM (K := K) rfl hr.units0 hr.units) (pe_cal C__law_told hr (by decide) (by rfl) (pa_cons (pv 1) (pa_cons (pe_bm PySem.F.plainAttrs_str PySem.F.slot_str_join PySem.F.type_str_join (mt_join (K := K) rfl) pe_str (pa_cons (pe_slice (sl_K (K := K) rfl) (pv 3) po_none (po_some pe_int)) pa_nil)) (pa_cons pe_bl pa_nil)))) (pe_tup (pa_cons pe_str (pa_cons (pe_comp (N := ["_law_k", "_law_first"]) (nt := 1) (caps := [2]) comp_ok rfl (pi_range1 (by rfl) T.n_range (pa_cons pe_int pa_nil)) (fun _ _ _ _ _ => (pg_name (i := 0) (show List.Nodup (α := Str) ["_law_k", "_law_first"] from by decide +kernel) rfl (Or.inl rfl))) gk_name (fun _ _ _ _ _ => pts_nil) (fun _ _ _ _ _ => (pe_op op_add (pv 1) (pv 0)))) pa_nil))) (nomark _)))))))), ?_⟩
    refine rdg (σ' := [some x0, none, none, none]) rfl ?_
    obtain ⟨a, ns, rfl, hS, hl, q⟩ := h
    walk_at "rd"
    refine ⟨small5 (by simp), fun p hp => ?_⟩
    generalize g1 : upd H p _ = G1
    have a1 : G1 p = some (.lst (sV wsH)) := new_at g1
    have s1 := new_sm g1 hp
    refine ⟨_, _, rfl, a, ns, 9, rfl, s1.seq hS, hl, rfl, by omega, fun c => ?_⟩
    (try walk_at "rd")
    have e0 := Int.emod_nonneg c (show (185 : Int) ≠ 0 by decide)
    have e1 := Int.emod_lt_of_pos c (show (0 : Int) < 185 by decide)
    obtain ⟨f0, ef⟩ := Int.eq_ofNat_of_zero_le e0
    rw [ef] at e1 ⊢
    refine ⟨by decide, by decide, by decide, ?_⟩
    rw [show Int.toNat 71 = 71 from rfl]
    have hw := wdsH
    have lw : 2 ^ wsH.length = 256 := by decide
    refine compRs (fun _ => true) (fun k => .str (Tx.sT wsH (f0 + k))) (by decide) (fun k hk H3 s3 R R' r1 r2 => ?_) fun H3 p3 s3 hp3 => ?_
    · (try walk_at "rd")
      rw [show (f0 : Int) + (k : Int) = ((f0 + k : Nat) : Int) by omega]
      exact ⟨_, _, rfl, p, wsH, f0 + k, rfl, s3 _ _ a1, hw, rfl, by omega, fun H4 s4 => r1 rfl _ s4⟩
    rw [List.filter_eq_self.mpr fun _ _ => rfl, map_sV]
    have hf : ∀ n, n ≤ 71 → ∀ b ∈ (List.range n).map (f0 + ·), b < 2 ^ wsH.length := fun n hn b hb => by
      obtain ⟨k, hk, rfl⟩ := List.mem_map.mp hb
      have := List.mem_range.mp hk
      show f0 + k < _
      omega
    have hr : ∀ n, ((List.range n).map (f0 + ·)).Pairwise (· < ·) := fun n => by
      rw [List.pairwise_map]
      exact List.pairwise_lt_range.imp fun h => by omega
    have et : ∀ n, 0 < n → _root_.PySem.Txt.join " " ((List.range n).map fun k => Tx.sT wsH (f0 + k)) = Tx.fT wsH ((List.range n).map (f0 + ·)) := fun n hn => by
      unfold Tx.fT
      rw [if_neg (fun z => by have := congrArg List.length z; simp at this; omega), List.map_map]
      rfl
    have sl : ∀ n, n ≤ 71 → ∀ y ∈ (List.range n).map (fun k => Tx.sT wsH (f0 + k)), y.length ≤ 72 := fun n hn y hy => by
      obtain ⟨k, hk, rfl⟩ := List.mem_map.mp hy
      have := List.mem_range.mp hk
      exact Tx.sT_len hw (by omega)
    have fit : ∀ n, 0 < n → n ≤ 71 → Fit false (Tx.fT wsH ((List.range n).map (f0 + ·))) := fun n h0 hn => by
      refine ⟨Nat.le_trans (Tx.fT_len hw (hf n hn) (by simp; omega)) (by decide), ?_⟩
      rw [if_neg (by decide), Tx.split_fT hw (hf n hn), if_neg (fun z => by have := congrArg List.length z; simp at this; omega)]
      refine ⟨by simp; omega, fun q hq => ?_⟩
      obtain ⟨b, hb, rfl⟩ := List.mem_map.mp hq
      rw [Tx.split_sT hw (hf n hn b hb)]
      split
      · decide
      · unfold Tx.wds
        rw [List.length_map]
        exact Nat.le_trans (List.length_filter_le _ _) (by simp)
    generalize g3 : upd H3 p3 _ = G3
    have a3 := new_at g3
    have s3 := s3.trans (new_sm g3 hp3)
    refine ⟨rfl, _, p3, _, rfl, rfl, SqL.of a3, join_fits (M := 72) (N := 100) (sl 71 (by decide)) (by simp) (by rw [Tx.lit_space]; decide) (by decide), ?_⟩
    rw [et 71 (by decide)]
    refine ⟨_, _, _, rfl, p, wsH, false, rfl, s3 _ _ a1, hw, rfl, .inl ⟨_, rfl, fit 71 (by decide) (by decide), fun v H4 s4 tl => ?_⟩⟩
    have e71 : Tx.rF wsH (Tx.fT wsH ((List.range 71).map (f0 + ·))) = none := by
      unfold Tx.rF
      rw [Tx.split_fT hw (hf 71 (by decide)), if_neg (fun z => by have := congrArg List.length z; simp at this), if_neg]
      first
        | (intro y; have := y.2.1; simp at this)
        | (intro z; have := congrArg List.length z; simp at this)
    unfold Tld at tl
    rw [if_neg (by decide), e71] at tl
    subst tl
    refine .inl (rNeX_s.mpr ⟨false, by simp, iteF ⟨rfl, p3, _, rfl, SqL.of (s4 _ _ a3), fun p5 hp5 => ?_⟩⟩)
    rw [show (70 : Int) = ((70 : Nat) : Int) from rfl, cut_take, show (sV ((List.range 71).map fun k => Tx.sT wsH (f0 + k))).take 70 = sV ((List.range 70).map fun k => Tx.sT wsH (f0 + k)) from by rw [← List.map_take, ← List.map_take]; rfl]
    generalize g5 : upd H4 p5 _ = G5
    have a5 := new_at g5
    have s5 := s4.trans (new_sm g5 hp5)
    refine ⟨_, p5, _, rfl, rfl, SqL.of a5, join_fits (M := 72) (N := 100) (sl 70 (by decide)) (by simp) (by rw [Tx.lit_space]; decide) (by decide), ?_⟩
    rw [et 70 (by decide)]
    refine ⟨_, _, _, rfl, p, wsH, false, rfl, s5 _ _ (s3 _ _ a1), hw, rfl, .inl ⟨_, rfl, fit 70 (by decide) (by decide), fun v H6 s6 tl => ?_⟩⟩
    have e70 : Tx.rF wsH (Tx.fT wsH ((List.range 70).map (f0 + ·))) = some ((List.range 70).map (f0 + ·)) := Tx.rF_fT hw (hf 70 (by decide)) (hr 70) (by simp)
    unfold Tld at tl
    rw [if_neg (by decide), e70] at tl
    obtain ⟨t, pt, rfl, ht, hpt, ntp, b1, b2⟩ := tl
    refine ⟨by decide, by decide, ?_⟩
    rw [show ((70 : Nat) : Int).toNat = 70 from rfl]
    refine compRs (fun _ => true) (fun k => .int ((f0 + k : Nat) : Int)) (by decide) (fun k hk H7 s7 R R' r1 r2 => ?_) fun H7 p7 s7 hp7 => ?_
    · (try walk_at "rd")
      rw [show (f0 : Int) + (k : Int) = ((f0 + k : Nat) : Int) by omega]
      exact r1 rfl _ (Same.refl _)
    rw [List.filter_eq_self.mpr fun _ _ => rfl, show (List.range 70).map (fun k => V.int ((f0 + k : Nat) : Int)) = nV ((List.range 70).map (f0 + ·)) by simp [nV, nI]]
    generalize g7 : upd H7 p7 _ = G7
    have a7 := new_at g7
    have s7 := s7.trans (new_sm g7 hp7)
    refine ⟨small5 (by simp), fun t2 ht2 => ?_⟩
    generalize g8 : upd G7 t2 _ = G8
    have a8 := new_at g8
    have t8 := new_sm g8 ht2
    have n1 : t ≠ t2 := fun e => by rw [← e, s7 _ _ b2] at ht2; cases ht2
    have n2 : pt ≠ p7 := fun e => by
      have : H7 pt = some _ := ‹Same H6 H7› _ _ b1
      rw [e, hp7] at this
      cases this
    refine .inr ⟨1, _, t, by decide, rfl, deq_two n1 (t8 _ _ (s7 _ _ b2)) a8 (deq_flat n2 (t8 _ _ (s7 _ _ b1)) (t8 _ _ a7) (flat_n _) (flat_n _)), ?_⟩
    rw [eqVs_n, decide_eq_true rfl]
    exact q _ ((((s1.trans s3).trans s5).trans s6).trans (s7.trans t8))
abbrev s_law : Stmt := top 33
theorem sc_law : FnScope ["_law_script", "_law_words_here", "_law_one", "_law_family", "_law_k", "_law_texts_here", "_law_of_set", "_law_text", "_law_bent_here"] ["_law_script"] (defScope s_law) := ⟨rfl, rfl, rfl, by decide +kernel, rfl, by decide +kernel, by decide +kernel⟩
theorem put_keys (kvs : List (Key × V)) (L : List Nat) (b : Nat) (v : V) (h : kvs.map (·.1) = (nI L).map Sum.inl) : (putK kvs (Sum.inl (b : Int)) v).map (·.1) = (nI (if b ∈ L then L else L ++ [b])).map Sum.inl := by
  have hm : (kvs.any fun kv => decide (kv.1 = Sum.inl (b : Int))) = true ↔ b ∈ L := by
    rw [List.any_eq_true]
    constructor
    · rintro ⟨kv, h1, h2⟩
      have h3 : kv.1 ∈ kvs.map (·.1) := List.mem_map.mpr ⟨kv, h1, rfl⟩
      rw [h, of_decide_eq_true h2] at h3
      obtain ⟨z, hz, e⟩ := List.mem_map.mp h3
      obtain ⟨c, hc, rfl⟩ := List.mem_map.mp hz
      have := Sum.inl.inj e
      have : c = b := by omega
      exact this ▸ hc
    · intro hb
      have h3 : (Sum.inl (b : Int) : Key) ∈ kvs.map (·.1) := by rw [h]; exact List.mem_map.mpr ⟨b, List.mem_map.mpr ⟨b, hb, rfl⟩, rfl⟩
      obtain ⟨kv, h1, h2⟩ := List.mem_map.mp h3
      exact ⟨kv, h1, decide_eq_true h2⟩
  unfold putK
  by_cases c : b ∈ L
  · rw [if_pos (hm.mpr c), if_pos c, ← h, List.map_map]
    refine List.map_congr_left fun kv _ => ?_
    show (if kv.1 = Sum.inl (b : Int) then (kv.1, v) else kv).1 = kv.1
    split <;> rfl
  · rw [if_neg (fun z => c (hm.mp z)), if_neg c, List.map_append, h]
    simp
theorem Fit.of {c : Bool} {z : Str} (h : z.length ≤ 900) : Fit c z := by
  have sp := Tx.split_len z 32
  have pl := Tx.part_len z 32
  have sq := Tx.split_len z 43
  rw [← Tx.lit_space] at sp pl
  rw [← Tx.lit_plus] at sq
  refine ⟨by omega, ?_⟩
  split
  · omega
  · refine ⟨by omega, fun q hq => ?_⟩
    have h1 := pl q hq
    have h2 := Tx.split_len q 43
    rw [← Tx.lit_plus] at h2
    omega
theorem Tld.ne {K : PySem.W.Frag} {ws : List Str} {c : Bool} {z : Str} {H0 H1 H2 : Hp} {v1 v2 : V} {Q : VK} (h1 : Tld ws c z H0 H1 v1) (s : Same H1 H2) (h2 : Tld ws c z H1 H2 v2) (q : Q (.bl false) H2) : rNeM K v1 v2 H2 Q := by
  unfold Tld at h1 h2
  cases c with
  | true =>
    rw [if_pos rfl] at h1 h2
    cases e : Tx.rS ws z with
    | none =>
      rw [e] at h1 h2
      subst h1 h2
      exact .inl (rNeX_s.mpr (by simpa using q))
    | some a =>
      rw [e] at h1 h2
      obtain ⟨t1, rfl, _, b1⟩ := h1
      obtain ⟨t2, rfl, n2, b2⟩ := h2
      have ne : t1 ≠ t2 := fun e => by rw [← e, b1] at n2; cases n2
      refine .inr ⟨1, _, t1, by decide, rfl, deq_two ne (s _ _ b1) b2 (.flat rfl rfl), ?_⟩
      have : eqV (.int (a : Nat)) (.int (a : Nat)) = true := by simp [eqV]
      rw [this]
      exact q
  | false =>
    rw [if_neg (by decide)] at h1 h2
    cases e : Tx.rF ws z with
    | none =>
      rw [e] at h1 h2
      subst h1 h2
      exact .inl (rNeX_s.mpr (by simpa using q))
    | some fs =>
      rw [e] at h1 h2
      obtain ⟨t1, p1, rfl, _, _, _, c1, b1⟩ := h1
      obtain ⟨t2, p2, rfl, n2, m2, _, c2, b2⟩ := h2
      have ne : t1 ≠ t2 := fun e => by rw [← e, b1] at n2; cases n2
      have np : p1 ≠ p2 := fun e => by rw [← e, c1] at m2; cases m2
      refine .inr ⟨1, _, t1, by decide, rfl, deq_two ne (s _ _ b1) b2 (deq_flat np (s _ _ c1) c2 (flat_n _) (flat_n _)), ?_⟩
      rw [eqVs_n, decide_eq_true rfl]
      exact q
set_option maxHeartbeats 4000000 in
theorem ok_law {f : Addr} {fd : FuncData} (F : Fun K "law" "law" s_law f fd) (T : Txt mg) {cX cH cF cD cN cT : Addr} (Z : Xt K mg cX cH cF cD cN cT) {f__law_words : Addr} {fd__law_words : FuncData} (C__law_words : Cal P w K mg base "_law_words" 2 ["_law_script"] (spLWords K) f__law_words fd__law_words) {f__law_too_many : Addr} {fd__law_too_many : FuncData} (C__law_too_many : Cal P w K mg base "_law_too_many" 6 ["_law_script"] (spTM K) f__law_too_many fd__law_too_many) {f__law_at : Addr} {fd__law_at : FuncData} (C__law_at : Cal P w K mg base "_law_at" 1 ["_law_script", "_law_k"] (spCell K) f__law_at fd__law_at) {f__law_set_text : Addr} {fd__law_set_text : FuncData} (C__law_set_text : Cal P w K mg base "_law_set_text" 1 ["_law_words_here", "_law_one"] (spLSetT K) f__law_set_text fd__law_set_text) {f__law_bent : Addr} {fd__law_bent : FuncData} (C__law_bent : Cal P w K mg base "_law_bent" 2 ["_law_script", "_law_words_here", "_law_text"] (spBent K) f__law_bent fd__law_bent) {f__law_drawn : Addr} {fd__law_drawn : FuncData} (C__law_drawn : Cal P w K mg base "_law_drawn" 1 ["_law_cell", "_law_k", "_law_size"] spDrawn f__law_drawn fd__law_drawn) {f__law_told : Addr} {fd__law_told : FuncData} (C__law_told : Cal P w K mg base "_law_told" 5 ["_law_words_here", "_law_text", "_law_of_set"] (spTe K) f__law_told fd__law_told) {f__law_due : Addr} {fd__law_due : FuncData} (C__law_due : Cal P w K mg base "_law_due" 3 ["_law_words_here", "_law_text", "_law_of_set"] (spTe K) f__law_due fd__law_due) : FnOk P w K mg base CX0 7 f fd ["_law_script"] (spLaw K) := by
  have sc := sc_law
  refine F.ok sc_law (fun vs H Q E h => ?_) (fun cdv A outer s H vs Q E hr h => ?_)
  · obtain ⟨_, rfl, _⟩ := h
    rfl
  · obtain ⟨x0, rfl, h⟩ := h
    refine ⟨_, (pss_cons (ps_set (i := 1) sc.nd rfl (Or.inr rfl) (pe_cal C__law_words hr (by decide) (by rfl) (pa_cons (pv 0) pa_nil)))
      (pss_cons (ps_set (i := 2) sc.nd rfl (Or.inl rfl) (pe_op op_mod (pe_cal C__law_at hr (by decide) (by rfl) (pa_cons (pv 0) (pa_cons pe_int pa_nil))) (pe_op op_shl pe_int (pe_callB (call_lenK (K := K) rfl) (by rfl) T.n_len PySem.boot_len (pa_cons (pv 1) pa_nil)))))
      (pss_cons (ps_set (i := 3) sc.nd rfl (Or.inl rfl) pe_dnewK)
      (pss_cons (ps_for PassesOwn.never rfl (pi_range1 (by rfl) T.n_range (pa_cons (pe_op op_add pe_int (pe_op op_mod (pe_cal C__law_at hr (by decide) (by rfl) (pa_cons (pv 0) (pa_cons pe_int pa_nil))) pe_int)) pa_nil)) (pg_name (i := 4) sc.nd rfl (Or.inl rfl)) (pss_one (ps_dput (hu_of hr) (pv 3) (pe_cal C__law_drawn hr (by decide) (by rfl) (pa_cons (pe_cal C__law_at hr (by decide) (by rfl) (pa_cons (pv 0) (pa_cons pe_int pa_nil))) (pa_cons (pv 4) (pa_cons (pe_op op_shl pe_int (pe_callB (call_lenK (K := K) rfl) (by rfl) T.n_len PySem.boot_len (pa_cons (pv 1) pa_nil))) pa_nil)))) pe_bl rfl)))
      (pss_cons (ps_set (i := 5) sc.nd rfl (Or.inl rfl) (pe_lst (pa_cons (pe_cal C__law_set_text hr (by decide) (by rfl) (pa_cons (pv 1) (pa_cons (pv 2) pa_nil))) (pa_cons (pe_bm PySem.F.plainAttrs_str PySem.F.slot_str_join PySem.F.type_str_join (mt_join (K := K) rfl) pe_str (pa_cons (pe_comp (N := ["_law_some", "_law_words_here"]) (nt := 1) (caps := [1]) comp_ok rfl (pi_list (pe_callB (call_sortD rfl) (by rfl) T.n_sorted PyProof.Rows.boot_sorted (pa_cons (pv 3) pa_nil))) (fun _ _ _ _ _ => (pg_name (i := 0) (show List.Nodup (α := Str) ["_law_some", "_law_words_here"] from by decide +kernel) rfl (Or.inl rfl))) gk_name (fun _ _ _ _ _ => pts_nil) (fun _ _ _ _ _ => (pe_cal C__law_set_text hr (by decide) (by rfl) (pa_cons (pv 1) (pa_cons (pv 0) pa_nil))))) pa_nil)) pa_nil))))
      (pss_cons (ps_for PassesOwn.never rfl (pi_list (pe_lst (pa_cons pe_bl (pa_cons pe_bl pa_nil)))) (pg_name (i := 6) sc.nd rfl (Or.inl rfl)) (pss_cons (ps_set (i := 7) sc.nd rfl (Or.inl rfl) (pe_ix (ix_K (K := K) rfl) (pv 5) (pe_callTy call_int1 (by rfl) T.n_int PyProof.Rows.boot_int (pa_cons (pe_not (pv 6)) pa_nil)) (fun _ _ => rfl)))
      (pss_cons (ps_set (i := 8) sc.nd rfl (Or.inl rfl) (pe_cal C__law_bent hr (by decide) (by rfl) (pa_cons (pv 0) (pa_cons (pv 1) (pa_cons (pv 7) pa_nil)))))
      (pss_cons (ps_if (pt_cmpR (op_neM (K := K) rfl hr.units0 hr.units) (pe_cal C__law_told hr (by decide) (by rfl) (pa_cons (pv 1) (pa_cons (pv 8) (pa_cons (pv 6) pa_nil)))) (pe_cal C__law_due hr (by decide) (by rfl) (pa_cons (pv 1) (pa_cons (pv 8) (pa_cons (pv 6) pa_nil)))) (nomark _)) (pss_one (ps_ret pe_bl)) pss_nil)
      (pss_cons (ps_if (pt_cmpR (op_neM (K := K) rfl hr.units0 hr.units) (pe_cal C__law_told hr (by decide) (by rfl) (pa_cons (pv 1) (pa_cons (pv 7) (pa_cons (pv 6) pa_nil)))) (pe_cal C__law_due hr (by decide) (by rfl) (pa_cons (pv 1) (pa_cons (pv 7) (pa_cons (pv 6) pa_nil)))) (nomark _)) (pss_one (ps_ret pe_bl)) pss_nil)
      (pss_one (ps_if (pt_cmpR (op_eqTS (K := K) rfl hr.units0) (pe_cal C__law_due hr (by decide) (by rfl) (pa_cons (pv 1) (pa_cons (pv 7) (pa_cons (pv 6) pa_nil)))) pe_str (nomark _)) (pss_one (ps_ret pe_bl)) pss_nil)))))))
      (pss_one (ps_ret (pe_cal C__law_too_many hr (by decide) (by rfl) (pa_cons (pv 0) pa_nil)))))))))), ?_⟩
    refine rdg (σ' := [some x0, none, none, none, none, none, none, none, none]) rfl ?_
    obtain ⟨a, ns, rfl, hS, hlen, q⟩ := h
    walk_at "rd"
    refine ⟨_, rfl, a, ns, rfl, hS, hlen, fun p ws H1 hp s1 f1 hw hne => ?_⟩
    have h8 := hw.few
    have hS := s1.seq hS
    have pp := Nat.two_pow_pos ws.length
    have p8 : 2 ^ ws.length ≤ 2 ^ 8 := Nat.pow_le_pow_right (by decide) h8
    refine ⟨_, _, rfl, a, ns, 1, rfl, hS, hlen, rfl, by omega, fun c1 => ⟨p, rfl, _, .inl (SqL.of f1), ?_⟩⟩
    rw [sV_len, shl_one]
    refine ⟨cpow_of (by omega) (by omega) (by decide) (by decide), ?_⟩
    (try walk_at "rd")
    have u0 := Int.emod_nonneg c1 (show ((2 ^ ws.length : Nat) : Int) ≠ 0 by omega)
    have u1 := Int.emod_lt_of_pos c1 (show (0 : Int) < ((2 ^ ws.length : Nat) : Int) by omega)
    obtain ⟨o1, eo⟩ := Int.eq_ofNat_of_zero_le u0
    rw [eo] at u1 ⊢
    refine ⟨by omega, fun p0 hp0 => ?_⟩
    generalize gG0 : upd H1 p0 _ = G0
    have a0 := new_at gG0
    have t0 := new_sm gG0 hp0
    refine ⟨_, _, rfl, a, ns, 2, rfl, t0.seq hS, hlen, rfl, by omega, fun c => ?_⟩
    (try walk_at "rd")
    have w0 := Int.emod_nonneg c (show (8 : Int) ≠ 0 by decide)
    have w1 := Int.emod_lt_of_pos c (show (0 : Int) < 8 by decide)
    obtain ⟨cnt, hc⟩ := Int.eq_ofNat_of_zero_le w0
    rw [hc] at w1 ⊢
    refine ⟨by decide, by omega, by omega, ?_⟩
    rw [show ((1 : Int) + (cnt : Int)).toNat = 1 + cnt by omega]
    refine loopRn (fun i σ H3 => ∃ (v1 : Option V) (kvs : List (Key × V)) (L : List Nat), σ = [some (.ref a), some (.ref p), some (.int (o1 : Nat)), some (.ref p0), v1, none, none, none, none] ∧ Same H1 H3 ∧ H3 p0 = some (.dK kvs) ∧ kvs.map (·.1) = (nI L).map Sum.inl ∧ L.Nodup ∧ L.length ≤ i ∧ (∀ b ∈ L, b < 2 ^ ws.length) ∧ (1 ≤ i → L ≠ [])) ⟨none, [], [], rfl, t0, a0, rfl, List.nodup_nil, Nat.le_refl _, fun b hb => (by cases hb), fun z => absurd z (by decide)⟩ ?_ ?_
    · rintro i σ H3 hi ⟨v1, kvs, L, rfl, s3, b0, hkv, hnd, hL, hb, hn⟩ N0 hN0
      have hS3 := s3.seq hS
      have f3 := s3 _ _ f1
      (try walk_at "rd")
      refine ⟨_, _, rfl, a, ns, 3, rfl, hS3, hlen, rfl, by omega, fun c1 => ⟨_, .inl (SqL.of f3), ?_⟩⟩
      rw [sV_len, shl_one]
      refine ⟨cpow_of (by omega) (by omega) (by decide) (by decide), _, _, _, rfl, c1, i, 2 ^ ws.length, rfl, rfl, by omega, rfl, pp, fun one w1 => ?_⟩
      (try walk_at "rd")
      have lk : kvs.length = L.length := by have := congrArg List.length hkv; simpa using this
      refine ⟨_, DPut.k (k := Sum.inl (one : Int)) b0 (small5' (by omega)), hN0 _ _ ⟨_, _, if one ∈ L then L else L ++ [one], rfl, s3.upd hp0, upd_same, put_keys kvs L one _ hkv, ?_, ?_, fun b hb' => ?_, fun _ => ?_⟩⟩
      · split
        · exact hnd
        · rename_i hne
          exact List.nodup_append.mpr ⟨hnd, by simp, fun x hx y hy e => hne (by rw [show y = one by simpa using hy] at e; exact e ▸ hx)⟩
      · split
        · omega
        · rw [List.length_append]
          simp
          omega
      · split at hb'
        · exact hb b hb'
        · rcases List.mem_append.mp hb' with z | z
          · exact hb b z
          · rw [show b = one by simpa using z]; exact w1
      · split
        · rename_i hm
          intro z
          rw [z] at hm
          cases hm
        · simp
    rintro σ H3 ⟨v1, kvs, L, rfl, s3, b0, hkv, hnd, hL, hb, hn⟩
    have f3 := s3 _ _ f1
    have hS3 := s3.seq hS
    have hn := hn (by omega)
    (try walk_at "rd")
    refine ⟨_, _, rfl, p, ws, o1, rfl, f3, hw, rfl, by omega, fun H4 s4 => ⟨rfl, p0, kvs, nI L, rfl, s4 _ _ b0, hkv, by rw [List.length_map]; omega, fun l ms hl2 m1 m2 => ?_⟩⟩
    rw [sorted_nd hnd m1 m2]
    have hgs : ∀ b ∈ sd L, b < 2 ^ ws.length := fun b hb' => hb b (mem_sd.mp hb')
    have hg0 : sd L ≠ [] := fun z => by
      cases L with
      | nil => exact hn rfl
      | cons x r =>
        have : x ∈ sd (x :: r) := mem_sd.mpr List.mem_cons_self
        rw [z] at this
        cases this
    have hgl : (sd L).length ≤ 8 := sd_le L (by omega)
    have hgr := sd_rise L
    generalize sd L = gs at hgs hg0 hgl hgr hl2 ⊢
    generalize g5 : upd H4 l _ = G5
    have a5 : G5 l = some (.lst (nV gs)) := new_at g5
    have s5 := s4.trans (new_sm g5 hl2)
    refine ⟨l, rfl, ⟨_, SqL.of a5⟩, ?_⟩
    refine compNs (fun _ => true) (fun b => .str (Tx.sT ws b)) (SqL.of a5) (by omega) (fun b hb H6 s6 R R' r1 r2 => ?_) fun H6 p6 s6 hp6 => ?_
    · (try walk_at "rd")
      exact ⟨_, _, rfl, p, ws, b, rfl, s6 _ _ (s5 _ _ f3), hw, rfl, hgs b hb, fun H7 s7 => r1 rfl _ s7⟩
    rw [List.filter_eq_self.mpr fun _ _ => rfl, map_sV]
    generalize g6 : upd H6 p6 _ = G6
    have a6 := new_at g6
    have s6 := s5.trans (s6.trans (new_sm g6 hp6))
    have sl : ∀ y ∈ gs.map (Tx.sT ws), y.length ≤ 72 := fun y hy => by
      obtain ⟨b, hb, rfl⟩ := List.mem_map.mp hy
      exact Tx.sT_len hw (hgs b hb)
    refine ⟨_, p6, _, rfl, rfl, SqL.of a6, join_fits (M := 72) (N := 8) sl (by simpa using hgl) (by rw [Tx.lit_space]; decide) (by decide), small5 (by simp), fun p7 hp7 => ⟨small5 (by simp), fun p8 hp8 => ?_⟩⟩
    have eT : _root_.PySem.Txt.join " " (gs.map (Tx.sT ws)) = Tx.fT ws gs := by
      unfold Tx.fT
      rw [if_neg hg0]
    rw [show _root_.PySem.Txt.join (Str.ofString " ") (gs.map fun b => Tx.sT ws b) = Tx.fT ws gs from eT] at hp8 ⊢
    generalize g7 : upd G6 p7 _ = G7 at hp8 ⊢
    have a7 : G7 p7 = some (.lst (sV [Tx.sT ws o1, Tx.fT ws gs])) := new_at g7
    have s7 := s6.trans (new_sm g7 hp7)
    generalize g8 : upd G7 p8 _ = G8
    have a8 := new_at g8
    have t8 := new_sm g8 hp8
    have s8 := s7.trans t8
    have a7 := t8 _ _ a7
    have f8 := s8 _ _ f3
    have hS8 := s8.seq hS3
    have hT : ∀ c : Bool, ∃ t : Str, t = (if c = true then Tx.sT ws o1 else Tx.fT ws gs) ∧ As t ∧ t.length ≤ 600 ∧ (∀ q ∈ _root_.PySem.Txt.split t " ", q.length ≤ 80) ∧ (∀ (H H' : Hp) (v : V), Tld ws c t H H' v → ∃ (t' : Addr) (xs : List V), v = .ref t' ∧ H' t' = some (.tup xs)) := fun c => by
      refine ⟨_, rfl, ?_⟩
      cases c with
      | true =>
        rw [if_pos rfl]
        have l1 := Tx.sT_len hw (show o1 < 2 ^ ws.length by omega)
        refine ⟨sT_as hw (by omega), by omega, fun q hq => ?_, fun H H' v h => ?_⟩
        · have := Tx.part_len (Tx.sT ws o1) 32 q (by rw [← Tx.lit_space]; exact hq)
          omega
        · unfold Tld at h
          rw [if_pos rfl, Tx.rS_sT hw (by omega)] at h
          obtain ⟨t, h1, _, h2⟩ := h
          exact ⟨t, _, h1, h2⟩
      | false =>
        rw [if_neg (by decide)]
        have l1 := fT_short hw hgs hg0 hgl
        refine ⟨fT_as hw hgs, by omega, fun q hq => ?_, fun H H' v h => ?_⟩
        · rw [Tx.split_fT hw hgs, if_neg hg0] at hq
          have := sl q hq
          omega
        · unfold Tld at h
          rw [if_neg (by decide), Tx.rF_fT hw hgs hgr (by omega)] at h
          obtain ⟨t, p', h1, _, _, _, _, h2⟩ := h
          exact ⟨t, _, h1, h2⟩
    refine ⟨⟨_, SqL.of a8⟩, loopLn (xs := [V.bl true, V.bl false]) (fun i σ H' => ∃ (v6 v7 v8 : Option V), σ = [some (.ref a), some (.ref p), some (.int (o1 : Nat)), some (.ref p0), v1, some (.ref p7), v6, v7, v8] ∧ Same G8 H') ⟨none, none, none, rfl, Same.refl _⟩ (fun i σ H' _ ⟨_, _, _, _, e⟩ => SqL.of (e _ _ a8)) ?_ ?_⟩
    · rintro i x σ H9 hx ⟨v6, v7, v8, rfl, s9⟩ N hN
      obtain ⟨c, rfl⟩ : ∃ c, x = V.bl c := by
        have := List.mem_of_getElem? hx
        simp only [List.mem_cons, List.not_mem_nil, or_false] at this
        rcases this with rfl | rfl
        · exact ⟨_, rfl⟩
        · exact ⟨_, rfl⟩
      obtain ⟨t, et, ta, tl, tp, td⟩ := hT c
      have f9 := s9 _ _ f8
      have hS9 := s9.seq hS8
      (try walk_at "rd")
      have ix : atI (sV [Tx.sT ws o1, Tx.fT ws gs]) (if (!c) = true then 1 else 0) = some (.str t) := by
        rw [et]
        cases c with
        | true => rfl
        | false => rfl
      refine ⟨!c, by simp, ixX_l (SqL.of (s9 _ _ a7)) ix ?_⟩
      refine ⟨_, _, _, rfl, a, p, ns, ws, t, rfl, hS9, hlen, rfl, f9, hw, hne, rfl, ta, tl, tp, fun v H10 s10 gv => ?_⟩
      have f10 := s10 _ _ f9
      have first : ∀ (Qn : VK), (∀ H', Same H10 H' → Qn (.bl false) H') → spTe K [V.ref p, v, V.bl c] H10 (fun x_2 H1 => spTe K [V.ref p, v, V.bl c] H1 (fun y H2 => rNeM K x_2 y H2 Qn) E0) E0 := by
        intro Qn hq
        rcases gv with ⟨z, rfl, az, lz⟩ | ⟨ty, hk, hne'⟩
        · refine ⟨_, _, _, rfl, p, ws, c, rfl, f10, hw, rfl, .inl ⟨z, rfl, Fit.of lz, fun w1 K1 s1' d1 => ?_⟩⟩
          refine ⟨_, _, _, rfl, p, ws, c, rfl, s1' _ _ f10, hw, rfl, .inl ⟨z, rfl, Fit.of lz, fun w2 K2 s2' d2 => ?_⟩⟩
          exact d1.ne s2' d2 (hq _ (s1'.trans s2'))
        · refine ⟨_, _, _, rfl, p, ws, c, rfl, f10, hw, rfl, .inr ⟨ty, hk, hne', fun K1 s1' => ?_⟩⟩
          refine ⟨_, _, _, rfl, p, ws, c, rfl, s1' _ _ f10, hw, rfl, .inr ⟨ty, kd_same s1' hk, hne', fun K2 s2' => ?_⟩⟩
          exact .inl (rNeX_s.mpr (by simpa using hq _ (s1'.trans s2')))
      refine first _ fun H11 s11 => ⟨false, rfl, iteF ?_⟩
      refine ⟨_, _, _, rfl, p, ws, c, rfl, s11 _ _ f10, hw, rfl, .inl ⟨t, rfl, Fit.of (by omega), fun w1 K1 s1' d1 => ?_⟩⟩
      refine ⟨_, _, _, rfl, p, ws, c, rfl, s1' _ _ (s11 _ _ f10), hw, rfl, .inl ⟨t, rfl, Fit.of (by omega), fun w2 K2 s2' d2 => d1.ne s2' d2 ⟨false, rfl, iteF ?_⟩⟩⟩
      refine ⟨_, _, _, rfl, p, ws, c, rfl, s2' _ _ (s1' _ _ (s11 _ _ f10)), hw, rfl, .inl ⟨t, rfl, Fit.of (by omega), fun w3 K3 s3' d3 => ?_⟩⟩
      obtain ⟨t', xs, rfl, b3⟩ := td _ _ _ d3
      exact ⟨t', xs, _, rfl, rfl, SqT.of b3, false, rfl, iteF (hN _ _ ⟨_, _, _, rfl, s9.trans (s10.trans (s11.trans (s1'.trans (s2'.trans s3'))))⟩)⟩
    · rintro σ H9 ⟨v6, v7, v8, rfl, s9⟩
      (try walk_at "rd")
      exact ⟨_, rfl, a, ns, rfl, s9.seq hS8, hlen, fun H' _ => q H'⟩
end
set_option maxHeartbeats 4000000 in
theorem all_mk {l : PySem.W.OpenLaw} {w : World} {K : PySem.W.Frag} {h : Heap} {mg : Str → Option Value} {fa : Addr} (X : K.In h) (G : h.Ns mainGlobals mg) (hfa : mg "law" = some (.ref fa))
    {f_is_whole : Addr} {od_is_whole an_is_whole : Option Addr} {sl_is_whole : Array (Option Value)} {oc_is_whole kV_is_whole dc_is_whole pm_is_whole cd_is_whole ct_is_whole : Value}
    {f_is_set : Addr} {od_is_set an_is_set : Option Addr} {sl_is_set : Array (Option Value)} {oc_is_set kV_is_set dc_is_set pm_is_set cd_is_set ct_is_set : Value}
    {f_set_of : Addr} {od_set_of an_set_of : Option Addr} {sl_set_of : Array (Option Value)} {oc_set_of kV_set_of dc_set_of pm_set_of cd_set_of ct_set_of : Value}
    {f_is_family : Addr} {od_is_family an_is_family : Option Addr} {sl_is_family : Array (Option Value)} {oc_is_family kV_is_family dc_is_family pm_is_family cd_is_family ct_is_family : Value}
    {f_parted : Addr} {od_parted an_parted : Option Addr} {sl_parted : Array (Option Value)} {oc_parted kV_parted dc_parted pm_parted cd_parted ct_parted : Value}
    {f_read_name : Addr} {od_read_name an_read_name : Option Addr} {sl_read_name : Array (Option Value)} {oc_read_name kV_read_name dc_read_name pm_read_name cd_read_name ct_read_name : Value}
    {f_read_set : Addr} {od_read_set an_read_set : Option Addr} {sl_read_set : Array (Option Value)} {oc_read_set kV_read_set dc_read_set pm_read_set cd_read_set ct_read_set : Value}
    {f_read_family : Addr} {od_read_family an_read_family : Option Addr} {sl_read_family : Array (Option Value)} {oc_read_family kV_read_family dc_read_family pm_read_family cd_read_family ct_read_family : Value}
    {f__law_at : Addr} {od__law_at an__law_at : Option Addr} {sl__law_at : Array (Option Value)} {oc__law_at kV__law_at dc__law_at pm__law_at cd__law_at ct__law_at : Value}
    {f__law_drawn : Addr} {od__law_drawn an__law_drawn : Option Addr} {sl__law_drawn : Array (Option Value)} {oc__law_drawn kV__law_drawn dc__law_drawn pm__law_drawn cd__law_drawn ct__law_drawn : Value}
    {f__law_words : Addr} {od__law_words an__law_words : Option Addr} {sl__law_words : Array (Option Value)} {oc__law_words kV__law_words dc__law_words pm__law_words cd__law_words ct__law_words : Value}
    {f__law_set_text : Addr} {od__law_set_text an__law_set_text : Option Addr} {sl__law_set_text : Array (Option Value)} {oc__law_set_text kV__law_set_text dc__law_set_text pm__law_set_text cd__law_set_text ct__law_set_text : Value}
    {f__law_signs : Addr} {od__law_signs an__law_signs : Option Addr} {sl__law_signs : Array (Option Value)} {oc__law_signs kV__law_signs dc__law_signs pm__law_signs cd__law_signs ct__law_signs : Value}
    {f__law_bent : Addr} {od__law_bent an__law_bent : Option Addr} {sl__law_bent : Array (Option Value)} {oc__law_bent kV__law_bent dc__law_bent pm__law_bent cd__law_bent ct__law_bent : Value}
    {f__law_read_set : Addr} {od__law_read_set an__law_read_set : Option Addr} {sl__law_read_set : Array (Option Value)} {oc__law_read_set kV__law_read_set dc__law_read_set pm__law_read_set cd__law_read_set ct__law_read_set : Value}
    {f__law_read_family : Addr} {od__law_read_family an__law_read_family : Option Addr} {sl__law_read_family : Array (Option Value)} {oc__law_read_family kV__law_read_family dc__law_read_family pm__law_read_family cd__law_read_family ct__law_read_family : Value}
    {f__law_due : Addr} {od__law_due an__law_due : Option Addr} {sl__law_due : Array (Option Value)} {oc__law_due kV__law_due dc__law_due pm__law_due cd__law_due ct__law_due : Value}
    {f__law_told : Addr} {od__law_told an__law_told : Option Addr} {sl__law_told : Array (Option Value)} {oc__law_told kV__law_told dc__law_told pm__law_told cd__law_told ct__law_told : Value}
    {f__law_too_many : Addr} {od__law_too_many an__law_too_many : Option Addr} {sl__law_too_many : Array (Option Value)} {oc__law_too_many kV__law_too_many dc__law_too_many pm__law_too_many cd__law_too_many ct__law_too_many : Value}
    {f_law : Addr} {od_law an_law : Option Addr} {sl_law : Array (Option Value)} {oc_law kV_law dc_law pm_law cd_law ct_law : Value}
    (a_is_whole : PySem.W.nsIn K mainGlobals "is_whole" = some (some (.ref f_is_whole))) (l_is_whole : K.lookup f_is_whole = some ⟨oc_is_whole, od_is_whole, .func (PySem.W.fnOf "is_whole" "is_whole" (defArgs s_is_whole) (defBody s_is_whole) (defScope s_is_whole) .none kV_is_whole dc_is_whole pm_is_whole an_is_whole cd_is_whole ct_is_whole), sl_is_whole⟩) (c_is_whole : PySem.W.codeIn K cd_is_whole "is_whole" = true) (k_is_whole : PySem.W.keepIn K (.ref f_is_whole) = true)
    (a_is_set : PySem.W.nsIn K mainGlobals "is_set" = some (some (.ref f_is_set))) (l_is_set : K.lookup f_is_set = some ⟨oc_is_set, od_is_set, .func (PySem.W.fnOf "is_set" "is_set" (defArgs s_is_set) (defBody s_is_set) (defScope s_is_set) .none kV_is_set dc_is_set pm_is_set an_is_set cd_is_set ct_is_set), sl_is_set⟩) (c_is_set : PySem.W.codeIn K cd_is_set "is_set" = true) (k_is_set : PySem.W.keepIn K (.ref f_is_set) = true)
    (a_set_of : PySem.W.nsIn K mainGlobals "set_of" = some (some (.ref f_set_of))) (l_set_of : K.lookup f_set_of = some ⟨oc_set_of, od_set_of, .func (PySem.W.fnOf "set_of" "set_of" (defArgs s_set_of) (defBody s_set_of) (defScope s_set_of) .none kV_set_of dc_set_of pm_set_of an_set_of cd_set_of ct_set_of), sl_set_of⟩) (c_set_of : PySem.W.codeIn K cd_set_of "set_of" = true) (k_set_of : PySem.W.keepIn K (.ref f_set_of) = true)
    (a_is_family : PySem.W.nsIn K mainGlobals "is_family" = some (some (.ref f_is_family))) (l_is_family : K.lookup f_is_family = some ⟨oc_is_family, od_is_family, .func (PySem.W.fnOf "is_family" "is_family" (defArgs s_is_family) (defBody s_is_family) (defScope s_is_family) .none kV_is_family dc_is_family pm_is_family an_is_family cd_is_family ct_is_family), sl_is_family⟩) (c_is_family : PySem.W.codeIn K cd_is_family "is_family" = true) (k_is_family : PySem.W.keepIn K (.ref f_is_family) = true)
    (a_parted : PySem.W.nsIn K mainGlobals "parted" = some (some (.ref f_parted))) (l_parted : K.lookup f_parted = some ⟨oc_parted, od_parted, .func (PySem.W.fnOf "parted" "parted" (defArgs s_parted) (defBody s_parted) (defScope s_parted) .none kV_parted dc_parted pm_parted an_parted cd_parted ct_parted), sl_parted⟩) (c_parted : PySem.W.codeIn K cd_parted "parted" = true) (k_parted : PySem.W.keepIn K (.ref f_parted) = true)
    (a_read_name : PySem.W.nsIn K mainGlobals "read_name" = some (some (.ref f_read_name))) (l_read_name : K.lookup f_read_name = some ⟨oc_read_name, od_read_name, .func (PySem.W.fnOf "read_name" "read_name" (defArgs s_read_name) (defBody s_read_name) (defScope s_read_name) .none kV_read_name dc_read_name pm_read_name an_read_name cd_read_name ct_read_name), sl_read_name⟩) (c_read_name : PySem.W.codeIn K cd_read_name "read_name" = true) (k_read_name : PySem.W.keepIn K (.ref f_read_name) = true)
    (a_read_set : PySem.W.nsIn K mainGlobals "read_set" = some (some (.ref f_read_set))) (l_read_set : K.lookup f_read_set = some ⟨oc_read_set, od_read_set, .func (PySem.W.fnOf "read_set" "read_set" (defArgs s_read_set) (defBody s_read_set) (defScope s_read_set) .none kV_read_set dc_read_set pm_read_set an_read_set cd_read_set ct_read_set), sl_read_set⟩) (c_read_set : PySem.W.codeIn K cd_read_set "read_set" = true) (k_read_set : PySem.W.keepIn K (.ref f_read_set) = true)
    (a_read_family : PySem.W.nsIn K mainGlobals "read_family" = some (some (.ref f_read_family))) (l_read_family : K.lookup f_read_family = some ⟨oc_read_family, od_read_family, .func (PySem.W.fnOf "read_family" "read_family" (defArgs s_read_family) (defBody s_read_family) (defScope s_read_family) .none kV_read_family dc_read_family pm_read_family an_read_family cd_read_family ct_read_family), sl_read_family⟩) (c_read_family : PySem.W.codeIn K cd_read_family "read_family" = true) (k_read_family : PySem.W.keepIn K (.ref f_read_family) = true)
    (a__law_at : PySem.W.nsIn K mainGlobals "_law_at" = some (some (.ref f__law_at))) (l__law_at : K.lookup f__law_at = some ⟨oc__law_at, od__law_at, .func (PySem.W.fnOf "_law_at" "_law_at" (defArgs s__law_at) (defBody s__law_at) (defScope s__law_at) .none kV__law_at dc__law_at pm__law_at an__law_at cd__law_at ct__law_at), sl__law_at⟩) (c__law_at : PySem.W.codeIn K cd__law_at "_law_at" = true) (k__law_at : PySem.W.keepIn K (.ref f__law_at) = true)
    (a__law_drawn : PySem.W.nsIn K mainGlobals "_law_drawn" = some (some (.ref f__law_drawn))) (l__law_drawn : K.lookup f__law_drawn = some ⟨oc__law_drawn, od__law_drawn, .func (PySem.W.fnOf "_law_drawn" "_law_drawn" (defArgs s__law_drawn) (defBody s__law_drawn) (defScope s__law_drawn) .none kV__law_drawn dc__law_drawn pm__law_drawn an__law_drawn cd__law_drawn ct__law_drawn), sl__law_drawn⟩) (c__law_drawn : PySem.W.codeIn K cd__law_drawn "_law_drawn" = true) (k__law_drawn : PySem.W.keepIn K (.ref f__law_drawn) = true)
    (a__law_words : PySem.W.nsIn K mainGlobals "_law_words" = some (some (.ref f__law_words))) (l__law_words : K.lookup f__law_words = some ⟨oc__law_words, od__law_words, .func (PySem.W.fnOf "_law_words" "_law_words" (defArgs s__law_words) (defBody s__law_words) (defScope s__law_words) .none kV__law_words dc__law_words pm__law_words an__law_words cd__law_words ct__law_words), sl__law_words⟩) (c__law_words : PySem.W.codeIn K cd__law_words "_law_words" = true) (k__law_words : PySem.W.keepIn K (.ref f__law_words) = true)
    (a__law_set_text : PySem.W.nsIn K mainGlobals "_law_set_text" = some (some (.ref f__law_set_text))) (l__law_set_text : K.lookup f__law_set_text = some ⟨oc__law_set_text, od__law_set_text, .func (PySem.W.fnOf "_law_set_text" "_law_set_text" (defArgs s__law_set_text) (defBody s__law_set_text) (defScope s__law_set_text) .none kV__law_set_text dc__law_set_text pm__law_set_text an__law_set_text cd__law_set_text ct__law_set_text), sl__law_set_text⟩) (c__law_set_text : PySem.W.codeIn K cd__law_set_text "_law_set_text" = true) (k__law_set_text : PySem.W.keepIn K (.ref f__law_set_text) = true)
    (a__law_signs : PySem.W.nsIn K mainGlobals "_law_signs" = some (some (.ref f__law_signs))) (l__law_signs : K.lookup f__law_signs = some ⟨oc__law_signs, od__law_signs, .func (PySem.W.fnOf "_law_signs" "_law_signs" (defArgs s__law_signs) (defBody s__law_signs) (defScope s__law_signs) .none kV__law_signs dc__law_signs pm__law_signs an__law_signs cd__law_signs ct__law_signs), sl__law_signs⟩) (c__law_signs : PySem.W.codeIn K cd__law_signs "_law_signs" = true) (k__law_signs : PySem.W.keepIn K (.ref f__law_signs) = true)
    (a__law_bent : PySem.W.nsIn K mainGlobals "_law_bent" = some (some (.ref f__law_bent))) (l__law_bent : K.lookup f__law_bent = some ⟨oc__law_bent, od__law_bent, .func (PySem.W.fnOf "_law_bent" "_law_bent" (defArgs s__law_bent) (defBody s__law_bent) (defScope s__law_bent) .none kV__law_bent dc__law_bent pm__law_bent an__law_bent cd__law_bent ct__law_bent), sl__law_bent⟩) (c__law_bent : PySem.W.codeIn K cd__law_bent "_law_bent" = true) (k__law_bent : PySem.W.keepIn K (.ref f__law_bent) = true)
    (a__law_read_set : PySem.W.nsIn K mainGlobals "_law_read_set" = some (some (.ref f__law_read_set))) (l__law_read_set : K.lookup f__law_read_set = some ⟨oc__law_read_set, od__law_read_set, .func (PySem.W.fnOf "_law_read_set" "_law_read_set" (defArgs s__law_read_set) (defBody s__law_read_set) (defScope s__law_read_set) .none kV__law_read_set dc__law_read_set pm__law_read_set an__law_read_set cd__law_read_set ct__law_read_set), sl__law_read_set⟩) (c__law_read_set : PySem.W.codeIn K cd__law_read_set "_law_read_set" = true) (k__law_read_set : PySem.W.keepIn K (.ref f__law_read_set) = true)
    (a__law_read_family : PySem.W.nsIn K mainGlobals "_law_read_family" = some (some (.ref f__law_read_family))) (l__law_read_family : K.lookup f__law_read_family = some ⟨oc__law_read_family, od__law_read_family, .func (PySem.W.fnOf "_law_read_family" "_law_read_family" (defArgs s__law_read_family) (defBody s__law_read_family) (defScope s__law_read_family) .none kV__law_read_family dc__law_read_family pm__law_read_family an__law_read_family cd__law_read_family ct__law_read_family), sl__law_read_family⟩) (c__law_read_family : PySem.W.codeIn K cd__law_read_family "_law_read_family" = true) (k__law_read_family : PySem.W.keepIn K (.ref f__law_read_family) = true)
    (a__law_due : PySem.W.nsIn K mainGlobals "_law_due" = some (some (.ref f__law_due))) (l__law_due : K.lookup f__law_due = some ⟨oc__law_due, od__law_due, .func (PySem.W.fnOf "_law_due" "_law_due" (defArgs s__law_due) (defBody s__law_due) (defScope s__law_due) .none kV__law_due dc__law_due pm__law_due an__law_due cd__law_due ct__law_due), sl__law_due⟩) (c__law_due : PySem.W.codeIn K cd__law_due "_law_due" = true) (k__law_due : PySem.W.keepIn K (.ref f__law_due) = true)
    (a__law_told : PySem.W.nsIn K mainGlobals "_law_told" = some (some (.ref f__law_told))) (l__law_told : K.lookup f__law_told = some ⟨oc__law_told, od__law_told, .func (PySem.W.fnOf "_law_told" "_law_told" (defArgs s__law_told) (defBody s__law_told) (defScope s__law_told) .none kV__law_told dc__law_told pm__law_told an__law_told cd__law_told ct__law_told), sl__law_told⟩) (c__law_told : PySem.W.codeIn K cd__law_told "_law_told" = true) (k__law_told : PySem.W.keepIn K (.ref f__law_told) = true)
    (a__law_too_many : PySem.W.nsIn K mainGlobals "_law_too_many" = some (some (.ref f__law_too_many))) (l__law_too_many : K.lookup f__law_too_many = some ⟨oc__law_too_many, od__law_too_many, .func (PySem.W.fnOf "_law_too_many" "_law_too_many" (defArgs s__law_too_many) (defBody s__law_too_many) (defScope s__law_too_many) .none kV__law_too_many dc__law_too_many pm__law_too_many an__law_too_many cd__law_too_many ct__law_too_many), sl__law_too_many⟩) (c__law_too_many : PySem.W.codeIn K cd__law_too_many "_law_too_many" = true) (k__law_too_many : PySem.W.keepIn K (.ref f__law_too_many) = true)
    (a_law : PySem.W.nsIn K mainGlobals "law" = some (some (.ref f_law))) (l_law : K.lookup f_law = some ⟨oc_law, od_law, .func (PySem.W.fnOf "law" "law" (defArgs s_law) (defBody s_law) (defScope s_law) .none kV_law dc_law pm_law an_law cd_law ct_law), sl_law⟩) (c_law : PySem.W.codeIn K cd_law "law" = true) (k_law : PySem.W.keepIn K (.ref f_law) = true)
    (z_isinstance : PySem.W.nsIn K mainGlobals "isinstance" = some none)
    (z_int : PySem.W.nsIn K mainGlobals "int" = some none)
    (z_bool : PySem.W.nsIn K mainGlobals "bool" = some none)
    (z_list : PySem.W.nsIn K mainGlobals "list" = some none)
    (z_len : PySem.W.nsIn K mainGlobals "len" = some none)
    (z_str : PySem.W.nsIn K mainGlobals "str" = some none)
    (z_sorted : PySem.W.nsIn K mainGlobals "sorted" = some none)
    (z_set : PySem.W.nsIn K mainGlobals "set" = some none)
    (z_range : PySem.W.nsIn K mainGlobals "range" = some none)
    (z_ValueError : PySem.W.nsIn K mainGlobals "ValueError" = some none)
    {t_MOST_SETS : Tok} (v_MOST_SETS : PySem.W.nsIn K mainGlobals "MOST_SETS" = some (some (.int 70 t_MOST_SETS)))
    {t_NO_NAMES : Tok} (v_NO_NAMES : PySem.W.nsIn K mainGlobals "NO_NAMES" = some (some (.str "-" t_NO_NAMES)))
    {t_NO_SETS : Tok} (v_NO_SETS : PySem.W.nsIn K mainGlobals "NO_SETS" = some (some (.str "none" t_NO_SETS)))
    {cX cH cF cD cN cT : Addr} {cdF cdD cdN cdT : ClassData} (gX : PySem.W.nsIn K mainGlobals "NoText" = some (some (.ref cX))) (gH : PySem.W.nsIn K mainGlobals "HitError" = some (some (.ref cH))) (gF : PySem.W.nsIn K mainGlobals "Full" = some (some (.ref cF))) (gD : PySem.W.nsIn K mainGlobals "NoDeed" = some (some (.ref cD))) (gN : PySem.W.nsIn K mainGlobals "NoFamily" = some (some (.ref cN))) (gT : PySem.W.nsIn K mainGlobals "TooMany" = some (some (.ref cT))) (xX : PySem.W.excIn K cX [.type "ValueError", .type "Exception", .type "BaseException", .type "object"] "ValueError.__new__" = true) (xH : PySem.W.excIn K cH [.type "ValueError", .type "Exception", .type "BaseException", .type "object"] "ValueError.__new__" = true) (eH : PySem.W.subIn K (.ref cH) (.type "BaseException") = some true) (eT : PySem.W.subIn K (.ref cX) (.ref cH) = some true) (f1 : PySem.W.findIn K (.ref cX) "__getattribute__" = some (some (.builtin "BaseException.__getattribute__"))) (f2 : PySem.W.findIn K (.ref cX) "__getattr__" = some none) (f3 : PySem.W.findIn K (.ref cX) "__class__" = some (some (.builtin "object.__class__"))) (e1 : PySem.W.subIn K (.ref cX) (.type "BaseException") = some true) (e2 : PySem.W.subIn K (.ref cX) (.type "object") = some true) (e3 : PySem.W.subIn K (.ref cX) (.type "ValueError") = some true) (sF : PySem.W.subIn K (.ref cX) (.ref cF) = some false) (tF : PySem.W.typeIn K (.ref cF) = some (.type "type")) (qF : PySem.W.clsIn K cF = some cdF) (dF : (cX == cF) = false) (sD : PySem.W.subIn K (.ref cX) (.ref cD) = some false) (tD : PySem.W.typeIn K (.ref cD) = some (.type "type")) (qD : PySem.W.clsIn K cD = some cdD) (dD : (cX == cD) = false) (sN : PySem.W.subIn K (.ref cX) (.ref cN) = some false) (tN : PySem.W.typeIn K (.ref cN) = some (.type "type")) (qN : PySem.W.clsIn K cN = some cdN) (dN : (cX == cN) = false) (sT : PySem.W.subIn K (.ref cX) (.ref cT) = some false) (tT : PySem.W.typeIn K (.ref cT) = some (.type "type")) (qT : PySem.W.clsIn K cT = some cdT) (dT : (cX == cT) = false) :
    ∃ fd : FuncData, (∀ (s : Shared) (v : Value), BindsTo s fd ⟨[v], []⟩ [("_law_script", v)]) ∧ ∀ base : Heap, K.In base → base.Ns mainGlobals mg → FnOk l.prog w K mg base CX0 7 fa fd ["_law_script"] ((spLaw K)) := by
  have e := hfa.symm.trans (PySem.W.mg_of X G a_law)
  cases e
  have T : Txt mg := ⟨PySem.W.mg_none_of X G z_isinstance, PySem.W.mg_none_of X G z_int, PySem.W.mg_none_of X G z_bool, PySem.W.mg_none_of X G z_list, PySem.W.mg_none_of X G z_len, PySem.W.mg_none_of X G z_str, PySem.W.mg_none_of X G z_sorted, PySem.W.mg_none_of X G z_set, PySem.W.mg_none_of X G z_range, PySem.W.mg_none_of X G z_ValueError, ⟨_, PySem.W.mg_of X G v_MOST_SETS⟩, ⟨_, PySem.W.mg_of X G v_NO_NAMES⟩, ⟨_, PySem.W.mg_of X G v_NO_SETS⟩⟩
  have Z : Xt K mg cX cH cF cD cN cT := ⟨PySem.W.mg_of X G gX, PySem.W.mg_of X G gH, PySem.W.mg_of X G gF, PySem.W.mg_of X G gD, PySem.W.mg_of X G gN, PySem.W.mg_of X G gT, xX, xH, eH, eT, ⟨⟨_, _, xX⟩, f1, f2, f3, e1, e2⟩, kit_type (by decide +kernel) e3, kit_no (kit_ref qF tF dF sF) (kit_no (kit_ref qD tD dD sD) (kit_no (kit_ref qN tN dN sN) (kit_no (kit_ref qT tT dT sT) rfl)))⟩
  have F_is_whole := fun_mk (st := s_is_whole) l_is_whole c_is_whole k_is_whole
  have b_is_whole := F_is_whole.binds (ps := ["thing"]) fun _ _ _ _ _ _ us hl => match us, hl with | [_], _ => rfl
  have F_is_set := fun_mk (st := s_is_set) l_is_set c_is_set k_is_set
  have b_is_set := F_is_set.binds (ps := ["many", "thing"]) fun _ _ _ _ _ _ us hl => match us, hl with | [_, _], _ => rfl
  have F_set_of := fun_mk (st := s_set_of) l_set_of c_set_of k_set_of
  have b_set_of := F_set_of.binds (ps := ["names"]) fun _ _ _ _ _ _ us hl => match us, hl with | [_], _ => rfl
  have F_is_family := fun_mk (st := s_is_family) l_is_family c_is_family k_is_family
  have b_is_family := F_is_family.binds (ps := ["many", "thing"]) fun _ _ _ _ _ _ us hl => match us, hl with | [_, _], _ => rfl
  have F_parted := fun_mk (st := s_parted) l_parted c_parted k_parted
  have b_parted := F_parted.binds (ps := ["text", "sign"]) fun _ _ _ _ _ _ us hl => match us, hl with | [_, _], _ => rfl
  have F_read_name := fun_mk (st := s_read_name) l_read_name c_read_name k_read_name
  have b_read_name := F_read_name.binds (ps := ["words", "word"]) fun _ _ _ _ _ _ us hl => match us, hl with | [_, _], _ => rfl
  have F_read_set := fun_mk (st := s_read_set) l_read_set c_read_set k_read_set
  have b_read_set := F_read_set.binds (ps := ["words", "text"]) fun _ _ _ _ _ _ us hl => match us, hl with | [_, _], _ => rfl
  have F_read_family := fun_mk (st := s_read_family) l_read_family c_read_family k_read_family
  have b_read_family := F_read_family.binds (ps := ["words", "text"]) fun _ _ _ _ _ _ us hl => match us, hl with | [_, _], _ => rfl
  have F__law_at := fun_mk (st := s__law_at) l__law_at c__law_at k__law_at
  have b__law_at := F__law_at.binds (ps := ["_law_script", "_law_k"]) fun _ _ _ _ _ _ us hl => match us, hl with | [_, _], _ => rfl
  have F__law_drawn := fun_mk (st := s__law_drawn) l__law_drawn c__law_drawn k__law_drawn
  have b__law_drawn := F__law_drawn.binds (ps := ["_law_cell", "_law_k", "_law_size"]) fun _ _ _ _ _ _ us hl => match us, hl with | [_, _, _], _ => rfl
  have F__law_words := fun_mk (st := s__law_words) l__law_words c__law_words k__law_words
  have b__law_words := F__law_words.binds (ps := ["_law_script"]) fun _ _ _ _ _ _ us hl => match us, hl with | [_], _ => rfl
  have F__law_set_text := fun_mk (st := s__law_set_text) l__law_set_text c__law_set_text k__law_set_text
  have b__law_set_text := F__law_set_text.binds (ps := ["_law_words_here", "_law_one"]) fun _ _ _ _ _ _ us hl => match us, hl with | [_, _], _ => rfl
  have F__law_signs := fun_mk (st := s__law_signs) l__law_signs c__law_signs k__law_signs
  have b__law_signs := F__law_signs.binds (ps := []) fun _ _ _ _ _ _ us hl => match us, hl with | [], _ => rfl
  have F__law_bent := fun_mk (st := s__law_bent) l__law_bent c__law_bent k__law_bent
  have b__law_bent := F__law_bent.binds (ps := ["_law_script", "_law_words_here", "_law_text"]) fun _ _ _ _ _ _ us hl => match us, hl with | [_, _, _], _ => rfl
  have F__law_read_set := fun_mk (st := s__law_read_set) l__law_read_set c__law_read_set k__law_read_set
  have b__law_read_set := F__law_read_set.binds (ps := ["_law_words_here", "_law_text"]) fun _ _ _ _ _ _ us hl => match us, hl with | [_, _], _ => rfl
  have F__law_read_family := fun_mk (st := s__law_read_family) l__law_read_family c__law_read_family k__law_read_family
  have b__law_read_family := F__law_read_family.binds (ps := ["_law_words_here", "_law_text"]) fun _ _ _ _ _ _ us hl => match us, hl with | [_, _], _ => rfl
  have F__law_due := fun_mk (st := s__law_due) l__law_due c__law_due k__law_due
  have b__law_due := F__law_due.binds (ps := ["_law_words_here", "_law_text", "_law_of_set"]) fun _ _ _ _ _ _ us hl => match us, hl with | [_, _, _], _ => rfl
  have F__law_told := fun_mk (st := s__law_told) l__law_told c__law_told k__law_told
  have b__law_told := F__law_told.binds (ps := ["_law_words_here", "_law_text", "_law_of_set"]) fun _ _ _ _ _ _ us hl => match us, hl with | [_, _, _], _ => rfl
  have F__law_too_many := fun_mk (st := s__law_too_many) l__law_too_many c__law_too_many k__law_too_many
  have b__law_too_many := F__law_too_many.binds (ps := ["_law_script"]) fun _ _ _ _ _ _ us hl => match us, hl with | [_], _ => rfl
  have F_law := fun_mk (st := s_law) l_law c_law k_law
  refine ⟨PySem.W.fnOf "law" "law" (defArgs s_law) (defBody s_law) (defScope s_law) .none kV_law dc_law pm_law an_law cd_law ct_law, fun s v => .of_eq rfl, fun base _ _ => ?_⟩
  have C_is_whole : Cal l.prog w K mg base "is_whole" 1 ["thing"] spWhole _ _ := ⟨ok_is_whole F_is_whole T , PySem.W.mg_of X G a_is_whole, k_is_whole, b_is_whole⟩
  have C_is_set : Cal l.prog w K mg base "is_set" 2 ["many", "thing"] spSet _ _ := ⟨ok_is_set F_is_set T C_is_whole, PySem.W.mg_of X G a_is_set, k_is_set, b_is_set⟩
  have C_set_of : Cal l.prog w K mg base "set_of" 1 ["names"] (spSetOf K) _ _ := ⟨ok_set_of F_set_of T , PySem.W.mg_of X G a_set_of, k_set_of, b_set_of⟩
  have C_is_family : Cal l.prog w K mg base "is_family" 3 ["many", "thing"] (spIsFam K) _ _ := ⟨ok_is_family F_is_family T C_is_set, PySem.W.mg_of X G a_is_family, k_is_family, b_is_family⟩
  have C_parted : CalX l.prog w K mg base "parted" 1 ["text", "sign"] (spParted cX) _ _ := ⟨ok_parted F_parted T Z , PySem.W.mg_of X G a_parted, k_parted, b_parted⟩
  have C_read_name : CalX l.prog w K mg base "read_name" 1 ["words", "word"] (spReadName K cX) _ _ := ⟨ok_read_name F_read_name T Z , PySem.W.mg_of X G a_read_name, k_read_name, b_read_name⟩
  have C_read_set : CalX l.prog w K mg base "read_set" 2 ["words", "text"] (spReadSet K cX) _ _ := ⟨ok_read_set F_read_set T Z C_parted C_set_of C_read_name, PySem.W.mg_of X G a_read_set, k_read_set, b_read_set⟩
  have C_read_family : CalX l.prog w K mg base "read_family" 4 ["words", "text"] (spReadFam K cX) _ _ := ⟨ok_read_family F_read_family T Z C_parted C_read_set C_is_family, PySem.W.mg_of X G a_read_family, k_read_family, b_read_family⟩
  have C__law_at : Cal l.prog w K mg base "_law_at" 1 ["_law_script", "_law_k"] (spCell K) _ _ := ⟨ok__law_at F__law_at T , PySem.W.mg_of X G a__law_at, k__law_at, b__law_at⟩
  have C__law_drawn : Cal l.prog w K mg base "_law_drawn" 1 ["_law_cell", "_law_k", "_law_size"] spDrawn _ _ := ⟨ok__law_drawn F__law_drawn T , PySem.W.mg_of X G a__law_drawn, k__law_drawn, b__law_drawn⟩
  have C__law_words : Cal l.prog w K mg base "_law_words" 2 ["_law_script"] (spLWords K) _ _ := ⟨ok__law_words F__law_words T C__law_at, PySem.W.mg_of X G a__law_words, k__law_words, b__law_words⟩
  have C__law_set_text : Cal l.prog w K mg base "_law_set_text" 1 ["_law_words_here", "_law_one"] (spLSetT K) _ _ := ⟨ok__law_set_text F__law_set_text T , PySem.W.mg_of X G a__law_set_text, k__law_set_text, b__law_set_text⟩
  have C__law_signs : Cal l.prog w K mg base "_law_signs" 1 [] spSigns _ _ := ⟨ok__law_signs F__law_signs T , PySem.W.mg_of X G a__law_signs, k__law_signs, b__law_signs⟩
  have C__law_bent : Cal l.prog w K mg base "_law_bent" 2 ["_law_script", "_law_words_here", "_law_text"] (spBent K) _ _ := ⟨ok__law_bent F__law_bent T C__law_at C__law_signs, PySem.W.mg_of X G a__law_bent, k__law_bent, b__law_bent⟩
  have C__law_read_set : Cal l.prog w K mg base "_law_read_set" 1 ["_law_words_here", "_law_text"] (spLRS K) _ _ := ⟨ok__law_read_set F__law_read_set T , PySem.W.mg_of X G a__law_read_set, k__law_read_set, b__law_read_set⟩
  have C__law_read_family : Cal l.prog w K mg base "_law_read_family" 2 ["_law_words_here", "_law_text"] (spLRF K) _ _ := ⟨ok__law_read_family F__law_read_family T C__law_read_set, PySem.W.mg_of X G a__law_read_family, k__law_read_family, b__law_read_family⟩
  have C__law_due : Cal l.prog w K mg base "_law_due" 3 ["_law_words_here", "_law_text", "_law_of_set"] (spTe K) _ _ := ⟨ok__law_due F__law_due T C__law_read_set C__law_read_family, PySem.W.mg_of X G a__law_due, k__law_due, b__law_due⟩
  have C__law_told : Cal l.prog w K mg base "_law_told" 5 ["_law_words_here", "_law_text", "_law_of_set"] (spTe K) _ _ := ⟨ok__law_told F__law_told T Z C_read_set C_read_family, PySem.W.mg_of X G a__law_told, k__law_told, b__law_told⟩
  have C__law_too_many : Cal l.prog w K mg base "_law_too_many" 6 ["_law_script"] (spTM K) _ _ := ⟨ok__law_too_many F__law_too_many T Z C__law_at C__law_set_text C__law_told, PySem.W.mg_of X G a__law_too_many, k__law_too_many, b__law_too_many⟩
  exact ok_law F_law T Z C__law_words C__law_too_many C__law_at C__law_set_text C__law_bent C__law_drawn C__law_told C__law_due
theorem walk {l : PySem.W.OpenLaw} {q : Program} {loose : List Str} {XP : (Str → Option Value) → Heap → Prop} {YP : World → Heap → Prop} {d : DefRec} {K : Params → PySem.W.Frag} (hn : l.most = some 63) (hdf : d.params.defaults = [])
    (hY : ∀ (w : World) (h : Heap), YP w h → (K w.params).In h)
    (F : ∀ (w : World) (mg : Str → Option Value) (fa : Addr) (h : Heap), (K w.params).In h → h.Ns mainGlobals mg → mg d.name = some (.ref fa) →
      ∃ fd : FuncData, (∀ (s : Shared) (u : Value), BindsTo s fd ⟨[u], []⟩ [("_law_script", u)]) ∧ ∀ base : Heap, (K w.params).In base → base.Ns mainGlobals mg → FnOk l.prog w (K w.params) mg base CX0 7 fa fd ["_law_script"] ((spLaw (K w.params)))) :
    PySem.W.WalkO q loose XP YP l.row.toRowW d [] (fun f vs => PySem.call f vs) :=
  L2.walk_of (n := 63) (k := 7) (x := "_law_script") (CX := fun _ => CX0) (sp := fun w => (spLaw (K w.params))) hn (by decide) hdf ⟨rfl, by decide, by decide⟩ hY F (fun _ _ a ns hl _ hS => ⟨_, rfl, a, ns, rfl, hS, hl, fun _ => rfl⟩) fun _ _ _ _ _ z => z
end Zk46
open PySem PySem.W PyProof.Rows
set_option maxRecDepth 100000 in
set_option maxHeartbeats 0 in
theorem PySem.Challenge.cw_allhits_k46_texts_of_no_sets_holds : PySem.Challenge.rw_allhits_k46_texts_of_no_sets.Holds := by
  w_on; o_law; k_head; (case hw => w_witness2)
  k_fill
  refine Zk46.walk (l := PySem.Challenge.rw_allhits_k46_texts_of_no_sets) rfl rfl (fun w h Y => PySem.W.kIn_of Y) ?F
  case F =>
    intro w mg fa h KX G hmg
    refine' Zk46.all_mk KX G hmg ?a_is_whole ?l_is_whole ?c_is_whole ?k_is_whole ?a_is_set ?l_is_set ?c_is_set ?k_is_set ?a_set_of ?l_set_of ?c_set_of ?k_set_of ?a_is_family ?l_is_family ?c_is_family ?k_is_family ?a_parted ?l_parted ?c_parted ?k_parted ?a_read_name ?l_read_name ?c_read_name ?k_read_name ?a_read_set ?l_read_set ?c_read_set ?k_read_set ?a_read_family ?l_read_family ?c_read_family ?k_read_family ?a__law_at ?l__law_at ?c__law_at ?k__law_at ?a__law_drawn ?l__law_drawn ?c__law_drawn ?k__law_drawn ?a__law_words ?l__law_words ?c__law_words ?k__law_words ?a__law_set_text ?l__law_set_text ?c__law_set_text ?k__law_set_text ?a__law_signs ?l__law_signs ?c__law_signs ?k__law_signs ?a__law_bent ?l__law_bent ?c__law_bent ?k__law_bent ?a__law_read_set ?l__law_read_set ?c__law_read_set ?k__law_read_set ?a__law_read_family ?l__law_read_family ?c__law_read_family ?k__law_read_family ?a__law_due ?l__law_due ?c__law_due ?k__law_due ?a__law_told ?l__law_told ?c__law_told ?k__law_told ?a__law_too_many ?l__law_too_many ?c__law_too_many ?k__law_too_many ?a_law ?l_law ?c_law ?k_law ?z_isinstance ?z_int ?z_bool ?z_list ?z_len ?z_str ?z_sorted ?z_set ?z_range ?z_ValueError ?v_MOST_SETS ?v_NO_NAMES ?v_NO_SETS ?gX ?gH ?gF ?gD ?gN ?gT ?xX ?xH ?eH ?eT ?f1 ?f2 ?f3 ?e1 ?e2 ?e3 ?sF ?tF ?qF ?dF ?sD ?tD ?qD ?dD ?sN ?tN ?qN ?dN ?sT ?tT ?qT ?dT
    (case a_is_whole => k_is)
    (case l_is_whole => k_is)
    (case c_is_whole => k_is)
    (case k_is_whole => k_is)
    (case a_is_set => k_is)
    (case l_is_set => k_is)
    (case c_is_set => k_is)
    (case k_is_set => k_is)
    (case a_set_of => k_is)
    (case l_set_of => k_is)
    (case c_set_of => k_is)
    (case k_set_of => k_is)
    (case a_is_family => k_is)
    (case l_is_family => k_is)
    (case c_is_family => k_is)
    (case k_is_family => k_is)
    (case a_parted => k_is)
    (case l_parted => k_is)
    (case c_parted => k_is)
    (case k_parted => k_is)
    (case a_read_name => k_is)
    (case l_read_name => k_is)
    (case c_read_name => k_is)
    (case k_read_name => k_is)
    (case a_read_set => k_is)
    (case l_read_set => k_is)
    (case c_read_set => k_is)
    (case k_read_set => k_is)
    (case a_read_family => k_is)
    (case l_read_family => k_is)
    (case c_read_family => k_is)
    (case k_read_family => k_is)
    (case a__law_at => k_is)
    (case l__law_at => k_is)
    (case c__law_at => k_is)
    (case k__law_at => k_is)
    (case a__law_drawn => k_is)
    (case l__law_drawn => k_is)
    (case c__law_drawn => k_is)
    (case k__law_drawn => k_is)
    (case a__law_words => k_is)
    (case l__law_words => k_is)
    (case c__law_words => k_is)
    (case k__law_words => k_is)
    (case a__law_set_text => k_is)
    (case l__law_set_text => k_is)
    (case c__law_set_text => k_is)
    (case k__law_set_text => k_is)
    (case a__law_signs => k_is)
    (case l__law_signs => k_is)
    (case c__law_signs => k_is)
    (case k__law_signs => k_is)
    (case a__law_bent => k_is)
    (case l__law_bent => k_is)
    (case c__law_bent => k_is)
    (case k__law_bent => k_is)
    (case a__law_read_set => k_is)
    (case l__law_read_set => k_is)
    (case c__law_read_set => k_is)
    (case k__law_read_set => k_is)
    (case a__law_read_family => k_is)
    (case l__law_read_family => k_is)
    (case c__law_read_family => k_is)
    (case k__law_read_family => k_is)
    (case a__law_due => k_is)
    (case l__law_due => k_is)
    (case c__law_due => k_is)
    (case k__law_due => k_is)
    (case a__law_told => k_is)
    (case l__law_told => k_is)
    (case c__law_told => k_is)
    (case k__law_told => k_is)
    (case a__law_too_many => k_is)
    (case l__law_too_many => k_is)
    (case c__law_too_many => k_is)
    (case k__law_too_many => k_is)
    (case a_law => k_is)
    (case l_law => k_is)
    (case c_law => k_is)
    (case k_law => k_is)
    (case z_isinstance => k_is)
    (case z_int => k_is)
    (case z_bool => k_is)
    (case z_list => k_is)
    (case z_len => k_is)
    (case z_str => k_is)
    (case z_sorted => k_is)
    (case z_set => k_is)
    (case z_range => k_is)
    (case z_ValueError => k_is)
    (case v_MOST_SETS => k_is)
    (case v_NO_NAMES => k_is)
    (case v_NO_SETS => k_is)
    (case gX => k_is)
    (case gH => k_is)
    (case gF => k_is)
    (case gD => k_is)
    (case gN => k_is)
    (case gT => k_is)
    (case xX => k_exc)
    (case xH => k_exc)
    (case eH => k_is)
    (case eT => k_is)
    (case f1 => k_is)
    (case f2 => k_is)
    (case f3 => k_is)
    (case e1 => k_is)
    (case e2 => k_is)
    (case e3 => k_is)
    (case sF => k_is)
    (case tF => k_is)
    (case qF => k_is)
    (case dF => rfl)
    (case sD => k_is)
    (case tD => k_is)
    (case qD => k_is)
    (case dD => rfl)
    (case sN => k_is)
    (case tN => k_is)
    (case qN => k_is)
    (case dN => rfl)
    (case sT => k_is)
    (case tT => k_is)
    (case qT => k_is)
    (case dT => rfl)
