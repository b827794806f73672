import PyProof.Rows.All
import Wide.All
import OpenK.AllK
import Wide.FinOn
import PyProof.EqAt
import PyProof.EqKinds
import PyProof.TupleCall
import KE.BitLaws
import Open.SpecLaws
import KE.OsHead
import KE.OsGo
import PySem.Challenge.RW_pumpnet_s01_answers
set_option Elab.async false
set_option linter.all false
set_option maxRecDepth 100000
namespace L2
open PySem PySem.Spec PyProof.Rows
abbrev Key := Sum Int Str
def keyIs : Key → Value → Bool
  | .inl k, v => Value.isInt k v
  | .inr x, v => Value.isStrOf x v
def keyH (w : World) : Key → Int
  | .inl k => hashInt k
  | .inr x => hashStr w x
theorem keyIs_shape : ∀ {k : Key} {v : Value}, keyIs k v = true → (∃ i t, k = Sum.inl i ∧ v = Value.int i t) ∨ (∃ x t, k = Sum.inr x ∧ v = Value.str x t)
  | .inl i, v, h => by
    obtain ⟨t, e⟩ := Value.isInt_shape (k := i) (v := v) h
    exact .inl ⟨i, t, rfl, e⟩
  | .inr x, v, h => by
    obtain ⟨t, e⟩ := Value.isStrOf_shape (x := x) (v := v) h
    exact .inr ⟨x, t, rfl, e⟩
theorem keyIs_int (i : Int) (t : Tok) : keyIs (.inl i) (.int i t) = true := by simp [keyIs, Value.isInt]
theorem keyIs_str (x : Str) (t : Tok) : keyIs (.inr x) (.str x t) = true := by simp [keyIs, Value.isStrOf]
theorem key_ll (a b : Int) : decide ((Sum.inl a : Key) = Sum.inl b) = (a == b) := by
  by_cases e : a = b
  · subst e; simp
  · have h : ¬ (Sum.inl a : Key) = Sum.inl b := fun q => e (Sum.inl.inj q)
    rw [decide_eq_false h]
    exact (beq_eq_false_iff_ne.mpr e).symm
theorem key_rr (a b : Str) : decide ((Sum.inr a : Key) = Sum.inr b) = decide (a = b) := by
  by_cases e : a = b
  · subst e; simp
  · have h : ¬ (Sum.inr a : Key) = Sum.inr b := fun q => e (Sum.inr.inj q)
    rw [decide_eq_false h, decide_eq_false e]
theorem key_lr (a : Int) (b : Str) : decide ((Sum.inl a : Key) = Sum.inr b) = false := decide_eq_false (fun q => nomatch q)
theorem key_rl (a : Str) (b : Int) : decide ((Sum.inr a : Key) = Sum.inl b) = false := decide_eq_false (fun q => nomatch q)
def mixKind (prog : Program) (w : World) : PySem.KeyKind prog w Key where
  is := keyIs
  hash := keyH w
  inj := fun v a b ha hb => by
    rcases keyIs_shape ha with ⟨i, t, rfl, rfl⟩ | ⟨x, t, rfl, rfl⟩
    · rcases keyIs_shape hb with ⟨j, u, rfl, e⟩ | ⟨y, u, rfl, e⟩
      · injection e with e1 _; rw [e1]
      · exact nomatch e
    · rcases keyIs_shape hb with ⟨j, u, rfl, e⟩ | ⟨y, u, rfl, e⟩
      · exact nomatch e
      · injection e with e1 _; rw [e1]
  byValue := fun k v h => by
    rcases keyIs_shape h with ⟨i, t, rfl, rfl⟩ | ⟨x, t, rfl, rfl⟩ <;> rfl
  pyHash := fun hv h => by
    rcases keyIs_shape hv with ⟨i, t, rfl, rfl⟩ | ⟨x, t, rfl, rfl⟩
    · exact wpAny_pyHash_int h
    · exact wpAny_pyHash_str h
  eqBool := fun hu hv h => by
    rcases keyIs_shape hu with ⟨i, t, rfl, rfl⟩ | ⟨x, t, rfl, rfl⟩
    · rcases keyIs_shape hv with ⟨j, u, rfl, rfl⟩ | ⟨y, u, rfl, rfl⟩
      · rw [key_ll] at h; exact wpAny_eqBool_int h
      · rw [key_lr] at h; exact SeqAt.EqAt.int_str i t y u _ _ _ _ h
    · rcases keyIs_shape hv with ⟨j, u, rfl, rfl⟩ | ⟨y, u, rfl, rfl⟩
      · rw [key_rl] at h; exact SeqAt.EqAt.str_int x t j u _ _ _ _ h
      · rw [key_rr] at h; exact wpAny_eqBool_str h
  «strs» := fun k x t v h => by
    rcases keyIs_shape h with ⟨i, u, rfl, e⟩ | ⟨y, u, rfl, e⟩
    · exact nomatch e
    · injection e with e1 _
      subst e1
      cases v <;> rfl
theorem mixKind_int (prog : Program) (w : World) (i : Int) (t : Tok) : (mixKind prog w).is (.inl i) (.int i t) = true := keyIs_int i t
theorem mixKind_str (prog : Program) (w : World) (x : Str) (t : Tok) : (mixKind prog w).is (.inr x) (.str x t) = true := keyIs_str x t
end L2
namespace L2
open PySem PySem.Spec PyProof.Rows
inductive V where
  | non | bl (b : Bool) | int (i : Int) | str (x : Str) | byt (b : Array UInt8) | flt (b : UInt64) | ref (a : Addr) | ty (n : String)
  deriving DecidableEq
def RelV : V → Value → Prop
  | .non, u => u = Value.none
  | .bl b, u => u = Value.bool b
  | .int i, u => ∃ t, u = Value.int i t
  | .str x, u => ∃ t, u = Value.str x t
  | .byt b, u => ∃ t, u = Value.bytes b t
  | .flt b, u => ∃ t, u = Value.float b t
  | .ref a, u => u = Value.ref a
  | .ty n, u => u = Value.type n
abbrev Vals : List V → List Value → Prop := Paired RelV
theorem Vals.length {xs : List V} {us : List Value} (r : Vals xs us) : xs.length = us.length := Paired.length r
theorem Vals.get : ∀ {xs : List V} {us : List Value} {i : Nat} {x : V}, Vals xs us → xs[i]? = some x → ∃ u, us[i]? = some u ∧ RelV x u
  | _, _, _, _, .nil, e => by simp at e
  | _, _, 0, _, .cons r _, e => by simp at e; subst e; exact ⟨_, rfl, r⟩
  | _, _, i + 1, x, .cons _ t, e => by
    obtain ⟨u, h1, h2⟩ := Vals.get (i := i) (x := x) t (by simpa using e)
    exact ⟨u, by simpa using h1, h2⟩
theorem Vals.set {x : V} {u : Value} (r : RelV x u) : ∀ {xs : List V} {us : List Value} (i : Nat), Vals xs us → Vals (xs.set i x) (us.set i u)
  | _, _, _, .nil => .nil
  | _, _, 0, .cons _ t => .cons r t
  | _, _, i + 1, .cons q t => .cons q (Vals.set r i t)
theorem Vals.append : ∀ {xs ys : List V} {us ws : List Value}, Vals xs us → Vals ys ws → Vals (xs ++ ys) (us ++ ws)
  | _, _, _, _, .nil, s => s
  | _, _, _, _, .cons r t, s => .cons r (Vals.append t s)
theorem Vals.take : ∀ {xs : List V} {us : List Value} (n : Nat), Vals xs us → Vals (xs.take n) (us.take n)
  | _, _, 0, _ => .nil
  | _, _, _ + 1, .nil => .nil
  | _, _, n + 1, .cons r t => .cons r (Vals.take n t)
theorem Vals.drop : ∀ {xs : List V} {us : List Value} (n : Nat), Vals xs us → Vals (xs.drop n) (us.drop n)
  | _, _, 0, r => r
  | _, _, _ + 1, .nil => .nil
  | _, _, n + 1, .cons _ t => Vals.drop n t
theorem Vals.none_of : ∀ {xs : List V} {us : List Value} {i : Nat}, Vals xs us → xs[i]? = none → us[i]? = none := fun {xs us i} r e => by
  have h1 := r.length
  have h2 : xs.length ≤ i := List.getElem?_eq_none_iff.mp e
  exact List.getElem?_eq_none_iff.mpr (by omega)
def RelO : Option V → Option Value → Prop
  | some v, some u => RelV v u
  | none, none => True
  | _, _ => False
def KV {κ : Type} : List (κ × V) → List (κ × Value) → Prop := Paired fun (p : κ × V) (q : κ × Value) => p.1 = q.1 ∧ RelV p.2 q.2
def kV : Key → V
  | .inl i => .int i
  | .inr x => .str x
inductive HO where
  | lst (xs : List V)
  | tup (xs : List V)
  | dK (kvs : List (Key × V)) | dT (kvs : List (List Key × V))
  | set (S : Int → Bool) (n : Nat)
  | ins (C dx : Addr) (fs : List (Str × V))
  | own (x : Addr)
  | xd (fs : List (Str × V))
  | met (f x : Addr)
  | rng (lo hi : Int)
  | frz (o : Obj) (u : HO)
  | tbl (ps : Array Value)
  | ext (φ : Heap → Prop)
abbrev Hp := Addr → Option HO
def upd (H : Hp) (a : Addr) (o : HO) : Hp := fun b => if b = a then some o else H b
theorem upd_same {H : Hp} {a : Addr} {o : HO} : upd H a o a = some o := by unfold upd; rw [if_pos rfl]
theorem upd_ne {H : Hp} {a b : Addr} {o : HO} (h : b ≠ a) : upd H a o b = H b := by unfold upd; rw [if_neg h]
theorem ne_of {H : Hp} {a b : Addr} {o u : HO} (h : H a = some o) (h' : H b = some u) (d : o ≠ u) : a ≠ b := by
  intro e; subst e; rw [h] at h'; exact d (Option.some.inj h')
theorem ne_of_none {H : Hp} {a b : Addr} {o : HO} (h : H a = some o) (h' : H b = none) : a ≠ b := by
  intro e; subst e; rw [h] at h'; cases h'
section
variable (P : Program) (w : World)
def ObjOk (H : Hp) (h : Heap) (a : Addr) : HO → Prop
  | .lst xs => xs.length ≤ sizeLine ∧ ∃ (its : List Value) (n : Nat), Vals xs its ∧ h.get? a = some { cls := .type "list", data := .seq its.toArray n }
  | .tup xs => xs.length ≤ sizeLine ∧ ∃ its : List Value, Vals xs its ∧ IsTup h a its.toArray
  | .dK kvs => kvs.length ≤ sizeLine ∧ (a == sysModules) = false ∧ ∃ vs, KV kvs vs ∧ h.DictOf (mixKind P w) a vs
  | .dT kvs => kvs.length ≤ sizeLine ∧ (a == sysModules) = false ∧ ∃ xs : List (List Key × Addr × Value),
      Paired (fun (p : List Key × V) (q : List Key × Addr × Value) => p.1 = q.1 ∧ H q.2.1 = some (.tup (p.1.map kV)) ∧ RelV p.2 q.2.2) kvs xs ∧
      ∃ o es ep, h.get? a = some o ∧ o.ExactDict ∧ o.data = .dict es ep ∧ es.toList = xs.map (entryOfKey (tupleKind (mixKind P w))) ∧ (xs.map (·.1)).Nodup
  | .set S n => h.SetOf (intKind P w) a S n
  | .ins C dx fs => H dx = some (.own a) ∧ fs.length ≤ 1000 ∧ dx ≠ a ∧ h.get? a = some (PySem.W.instObj C dx) ∧
      ∃ mA, h.Ns1 dx mA ∧ (∀ f, RelO (fs.lookup f) (mA f)) ∧ PySem.Within mA (fs.map (·.1))
  | .own _ => ∃ o, h.get? a = some o
  | .xd fs => ∃ mA, h.Ns1 a mA ∧ ∀ f, RelO (fs.lookup f) (mA f)
  | .rng lo hi => ∃ t u v, h.get? a = some { cls := .type "range", data := .fields #[.int lo t, .int hi u, .int 1 v] }
  | .frz o u => h.get? a = some o ∧ ObjOk H h a u
  | .tbl ps => h.get? a = some { cls := .none, data := .fields ps }
  | .met f x => h.get? a = some (PySem.W.methodObj (.ref f) (.ref x))
  | .ext φ => φ h ∧ (∃ o, h.get? a = some o) ∧ ∀ h1 h2 : Heap, φ h1 → (∀ o, h1.get? a = some o → h2.get? a = some o) → φ h2
def HOk (H : Hp) (h : Heap) : Prop := ∀ a o, H a = some o → ObjOk P w H h a o
end
section
variable {P : Program} {w : World} {H H' : Hp} {h h' : Heap} {a : Addr} {o : HO}
theorem ObjOk.lt (x : ObjOk P w H h a o) : a < h.objs.size := by
  cases o with
  | lst xs => obtain ⟨_, _, _, _, e⟩ := x; exact Heap.lt_size e
  | tup xs => obtain ⟨_, _, _, p⟩ := x; exact p.lt
  | dK kvs => obtain ⟨_, _, _, _, o, _, _, e, _⟩ := x; exact Heap.lt_size e
  | dT kvs => obtain ⟨_, _, _, _, o, _, _, e, _⟩ := x; exact Heap.lt_size e
  | set S n => obtain ⟨o, _, _, _, e, _⟩ := x; exact Heap.lt_size e
  | ins C dx fs => obtain ⟨_, _, _, e, _⟩ := x; exact Heap.lt_size e
  | own y => obtain ⟨_, e⟩ := x; exact Heap.lt_size e
  | xd fs => obtain ⟨_, ⟨_, _, _, e, _⟩, _⟩ := x; exact Heap.lt_size e
  | rng lo hi => obtain ⟨_, _, _, e⟩ := x; exact Heap.lt_size e
  | frz ob u => obtain ⟨e, _⟩ := x; exact Heap.lt_size e
  | tbl ps => exact Heap.lt_size (show h.get? a = some _ from x)
  | met f y => exact Heap.lt_size (show h.get? a = some _ from x)
  | ext φ => obtain ⟨_, ⟨_, e⟩, _⟩ := x; exact Heap.lt_size e
theorem Paired.mapP {α β : Type} {F G : α → β → Prop} : ∀ {l₁ : List α} {l₂ : List β}, Paired F l₁ l₂ → (∀ a b, F a b → G a b) → Paired G l₁ l₂
  | _, _, .nil, _ => .nil
  | _, _, .cons r t, f => .cons (f _ _ r) (Paired.mapP t f)
theorem ObjOk.stay (x : ObjOk P w H h a o) (k : ∀ b u, (b = a ∨ H b = some (.own a)) → h.get? b = some u → h'.get? b = some u)
    (ho : ∀ b, H b = some (.own a) → H' b = some (.own a)) (ht : ∀ b xs, H b = some (.tup xs) → H' b = some (.tup xs)) : ObjOk P w H' h' a o := by
  induction o with
  | lst xs => obtain ⟨z, its, n, r, e⟩ := x; exact ⟨z, its, n, r, k _ _ (.inl rfl) e⟩
  | tup xs => obtain ⟨z, its, r, ob, e, c⟩ := x; exact ⟨z, its, r, ob, k _ _ (.inl rfl) e, c⟩
  | dK kvs => obtain ⟨z, y, vs, r, ob, es, ep, e, c⟩ := x; exact ⟨z, y, vs, r, ob, es, ep, k _ _ (.inl rfl) e, c⟩
  | dT kvs =>
    obtain ⟨z, y, xs, r, ob, es, ep, e, c⟩ := x
    exact ⟨z, y, xs, Paired.mapP r fun p q z => ⟨z.1, ht _ _ z.2.1, z.2.2⟩, ob, es, ep, k _ _ (.inl rfl) e, c⟩
  | set S n => obtain ⟨ob, es, ep, t, e, c⟩ := x; exact ⟨ob, es, ep, t, k _ _ (.inl rfl) e, c⟩
  | ins C dx fs =>
    obtain ⟨d, z, ne, e, mA, ⟨od, es, ep, e2, c⟩, r⟩ := x
    exact ⟨ho _ d, z, ne, k _ _ (.inl rfl) e, mA, ⟨od, es, ep, k _ _ (.inr d) e2, c⟩, r⟩
  | own y => obtain ⟨ob, e⟩ := x; exact ⟨ob, k _ _ (.inl rfl) e⟩
  | xd fs => obtain ⟨mA, ⟨od, es, ep, e, c⟩, r⟩ := x; exact ⟨mA, ⟨od, es, ep, k _ _ (.inl rfl) e, c⟩, r⟩
  | rng lo hi => obtain ⟨t, u, v, e⟩ := x; exact ⟨t, u, v, k _ _ (.inl rfl) e⟩
  | frz ob u ih => obtain ⟨e, q⟩ := x; exact ⟨k _ _ (.inl rfl) e, ih q⟩
  | tbl ps =>
    have e : h.get? a = some { cls := .none, data := .fields ps } := x
    show h'.get? a = some { cls := .none, data := .fields ps }
    exact k a _ (.inl rfl) e
  | met f y =>
    have e : h.get? a = some (PySem.W.methodObj (.ref f) (.ref y)) := x
    show h'.get? a = some (PySem.W.methodObj (.ref f) (.ref y))
    exact k a _ (.inl rfl) e
  | ext φ => obtain ⟨p, ⟨o, e⟩, st⟩ := x; exact ⟨st _ _ p fun o q => k _ _ (.inl rfl) q, ⟨o, k _ _ (.inl rfl) e⟩, st⟩
theorem HOk.lt (x : HOk P w H h) (e : H a = some o) : a < h.objs.size := (x a o e).lt
theorem HOk.fresh (x : HOk P w H h) (e : h.objs.size ≤ a) : H a = none := by
  cases q : H a with
  | none => rfl
  | some u => exact absurd (Nat.lt_of_lt_of_le (x.lt q) e) (Nat.lt_irrefl _)
theorem HOk.kept (x : HOk P w H h) (k : ∀ b u, h.get? b = some u → h'.get? b = some u) : HOk P w H h' := fun a o e =>
  (x a o e).stay (fun b u _ q => k b u q) (fun _ q => q) fun _ _ q => q
theorem HOk.laid (x : HOk P w H h) (k : ∀ b u, h.get? b = some u → h'.get? b = some u) (hp : h.objs.size ≤ a) (new : ObjOk P w (upd H a o) h' a o) : HOk P w (upd H a o) h' := fun b u e => by
  have hn := x.fresh hp
  by_cases hb : b = a
  · subst hb; rw [upd_same] at e; cases e; exact new
  · rw [upd_ne hb] at e
    exact (x b u e).stay (fun c v _ q => k c v q) (fun c q => by rw [upd_ne (ne_of_none q hn)]; exact q) fun c xs q => by rw [upd_ne (ne_of_none q hn)]; exact q
end
def Rd (H : Hp) (a : Addr) (u : HO) : Prop := H a = some u ∨ ∃ o, H a = some (.frz o u)
theorem Rd.of {H : Hp} {a : Addr} {u : HO} (h : H a = some u) : Rd H a u := .inl h
theorem Rd.ok {P : Program} {w : World} {H : Hp} {h : Heap} {a : Addr} {u : HO} (r : Rd H a u) (x : HOk P w H h) : ObjOk P w H h a u := by
  rcases r with r | ⟨o, r⟩
  · exact x a u r
  · obtain ⟨_, q⟩ := x a _ r
    exact q
def Mut : Option HO → Prop
  | some (.lst _) => True
  | some (.dK _) => True
  | some (.dT _) => True
  | some (.set _ _) => True
  | some (.ins _ _ _) => True
  | some (.ext _) => True
  | _ => False
section
variable {P : Program} {w : World} {H : Hp} {h h' : Heap} {x e : Addr} {o' : HO}
theorem HOk.write (ok : HOk P w H h) (mu : Mut (H x)) (he : e = x ∨ H e = some (.own x)) (k : ∀ b u, b ≠ e → h.get? b = some u → h'.get? b = some u) (heo : ∃ u, h'.get? e = some u)
    (new : ObjOk P w (upd H x o') h' x o') : HOk P w (upd H x o') h' := fun b u q => by
  have nown : ∀ c y, H c = some (.own y) → c ≠ x := fun c y r z => by subst z; rw [r] at mu; exact mu
  have ntup : ∀ c xs, H c = some (.tup xs) → c ≠ x := fun c xs r z => by subst z; rw [r] at mu; exact mu
  by_cases hb : b = x
  · subst hb; rw [upd_same] at q; cases q; exact new
  · rw [upd_ne hb] at q
    by_cases hbe : b = e
    · have q' : H b = some (.own x) := by
        rcases he with z | z
        · exact absurd (hbe.trans z) hb
        · rw [hbe]; exact z
      rw [q] at q'; cases q'
      obtain ⟨v, hv⟩ := heo
      exact ⟨v, by rw [hbe]; exact hv⟩
    · refine (ok b u q).stay (fun c v hc r => k c v ?_ r) (fun c r => by rw [upd_ne (nown c b r)]; exact r) fun c xs r => by rw [upd_ne (ntup c xs r)]; exact r
      rcases hc with rfl | hc
      · exact hbe
      · rintro rfl
        rcases he with z | z
        · exact nown c b hc z
        · rw [hc] at z; cases z; exact hb rfl
end
structure Un (fs ex : List Addr) (H H' : Hp) (h h' : Heap) : Prop where
  keep : ∀ b o, h.get? b = some o → H b = none → b ∉ fs → b ∉ ex → h'.get? b = some o
  slot : ∀ b o, h.get? b = some o → H b = none → b ∈ fs → b ∉ ex → ∃ sl, h'.get? b = some { o with slots := sl }
  free : ∀ b o, h.get? b = some o → H b = none → b ∉ ex → H' b = none
  there : ∀ b o, h.get? b = some o → b ∉ ex → ∃ o', h'.get? b = some o'
  tups : ∀ b xs, H b = some (.tup xs) → H' b = some (.tup xs)
  frzs : ∀ b o u, H b = some (.frz o u) → H' b = some (.frz o u)
  tbls : ∀ b ps, H b = some (.tbl ps) → ∃ more, H' b = some (.tbl (ps ++ more))
section
variable {fs fs' ex ex' : List Addr} {H H1 H2 : Hp} {h h1 h2 h' : Heap} {a x e : Addr} {o : HO}
theorem Un.any (u : Un fs ex H H1 h h1) {b : Addr} {ob : Obj} (q : h.get? b = some ob) (n : H b = none) (hx : b ∉ ex) : ∃ sl, h1.get? b = some { ob with slots := sl } := by
  by_cases hb : b ∈ fs
  · exact u.slot b ob q n hb hx
  · exact ⟨ob.slots, u.keep b ob q n hb hx⟩
theorem Un.trans (a : Un fs ex H H1 h h1) (b : Un fs ex H1 H2 h1 h2) : Un fs ex H H2 h h2 where
  keep := fun c ob q n hc hx => b.keep c ob (a.keep c ob q n hc hx) (a.free c ob q n hx) hc hx
  slot := fun c ob q n hc hx => by
    obtain ⟨sl, e1⟩ := a.slot c ob q n hc hx
    obtain ⟨sl', e2⟩ := b.slot c _ e1 (a.free c ob q n hx) hc hx
    exact ⟨sl', e2⟩
  free := fun c ob q n hx => by
    obtain ⟨o', e1⟩ := a.there c ob q hx
    exact b.free c o' e1 (a.free c ob q n hx) hx
  there := fun c ob q hx => by
    obtain ⟨o', e1⟩ := a.there c ob q hx
    exact b.there c o' e1 hx
  tups := fun c xs q => b.tups c xs (a.tups c xs q)
  frzs := fun c ob xs q => b.frzs c ob xs (a.frzs c ob xs q)
  tbls := fun c ps q => by
    obtain ⟨m1, e1⟩ := a.tbls c ps q
    obtain ⟨m2, e2⟩ := b.tbls c _ e1
    exact ⟨m1 ++ m2, by rw [e2, Array.append_assoc]⟩
theorem Un.kept (k : ∀ b u, h.get? b = some u → h'.get? b = some u) : Un fs ex H H h h' :=
  ⟨fun b ob q _ _ _ => k b ob q, fun b ob q _ _ _ => ⟨ob.slots, k b ob q⟩, fun _ _ _ n _ => n, fun b ob q _ => ⟨ob, k b ob q⟩, fun _ _ q => q, fun _ _ _ q => q, fun _ ps q => ⟨#[], by rw [q]; simp⟩⟩
theorem Un.refl : Un fs ex H H h h := Un.kept fun _ _ q => q
theorem Un.laid (k : ∀ b u, h.get? b = some u → h'.get? b = some u) (hp : h.objs.size ≤ a) (hn : H a = none) : Un fs ex H (upd H a o) h h' where
  keep := fun b u q _ _ _ => k b u q
  slot := fun b u q _ _ _ => ⟨u.slots, k b u q⟩
  free := fun b u q n _ => by rw [upd_ne (Nat.ne_of_lt (Nat.lt_of_lt_of_le (Heap.lt_size q) hp))]; exact n
  there := fun b u q _ => ⟨u, k b u q⟩
  tups := fun b xs q => by rw [upd_ne (ne_of_none q hn)]; exact q
  frzs := fun b u xs q => by rw [upd_ne (ne_of_none q hn)]; exact q
  tbls := fun b ps q => ⟨#[], by rw [upd_ne (ne_of_none q hn), q]; simp⟩
theorem Un.write (mu : Mut (H x)) (he : e = x ∨ H e = some (.own x)) (k : ∀ b u, b ≠ e → h.get? b = some u → h'.get? b = some u) (heo : ∃ u, h'.get? e = some u) : Un fs ex H (upd H x o) h h' := by
  have hx : ∀ b, H b = none → b ≠ x := fun b n z => by subst z; rw [n] at mu; exact mu
  have hb : ∀ b, H b = none → b ≠ e := fun b n z => by
    subst z
    rcases he with r | r
    · exact hx b n r
    · rw [n] at r; cases r
  have hm : ∀ b u, H b = some u → ¬ Mut (some u) → b ≠ x := fun b u q nm z => by subst z; rw [q] at mu; exact nm mu
  refine ⟨fun b u q n _ _ => k b u (hb b n) q, fun b u q n _ _ => ⟨u.slots, k b u (hb b n) q⟩, fun b u q n _ => by rw [upd_ne (hx b n)]; exact n, fun b u q _ => ?_,
    fun b xs q => by rw [upd_ne (hm b _ q fun z => z)]; exact q, fun b u xs q => by rw [upd_ne (hm b _ q fun z => z)]; exact q, fun b ps q => ⟨#[], by rw [upd_ne (hm b _ q fun z => z), q]; simp⟩⟩
  by_cases hbe : b = e
  · subst hbe; exact heo
  · exact ⟨u, k b u hbe q⟩
theorem Un.mono (u : Un fs ex H H1 h h1) (hs : ∀ b ∈ fs, b ∈ fs') (hx : ∀ b ∈ ex, b ∈ ex') : Un fs' ex' H H1 h h1 :=
  ⟨fun b ob q n hb he => u.keep b ob q n (fun z => hb (hs b z)) fun z => he (hx b z), fun _ _ q n _ he => u.any q n fun z => he (hx _ z), fun b ob q n he => u.free b ob q n fun z => he (hx b z), fun b ob q he => u.there b ob q fun z => he (hx b z), u.tups, u.frzs, u.tbls⟩
end
def trk (h : Heap) (H : Hp) : List Addr := (List.range h.objs.size).filter fun a => (H a).isSome
def hidT (h : Heap) (H : Hp) : Heap := PySem.W.hideAll h (trk h H)
theorem hidT_size (h : Heap) (H : Hp) : (hidT h H).objs.size = h.objs.size := PySem.W.hideAll_size _ _
theorem hidT_get {h : Heap} {H : Hp} {b : Addr} {o : Obj} (e : h.get? b = some o) (n : H b = none) : (hidT h H).get? b = some o :=
  PySem.W.hideAll_get _ e fun hm => by
    have q : (H b).isSome = true := (List.mem_filter.mp hm).2
    rw [n] at q; simp at q
theorem of_hidT {h : Heap} {H : Hp} {b : Addr} {o : Obj} (e : (hidT h H).get? b = some o) : h.get? b = some o ∧ H b = none := by
  have e' : h.get? b = some o := PySem.W.of_hideAll (trk h H) e
  refine ⟨e', ?_⟩
  cases q : H b with
  | none => rfl
  | some x =>
    have hm : b ∈ trk h H := List.mem_filter.mpr ⟨List.mem_range.mpr (Heap.lt_size e'), by simp [q]⟩
    have z : (hidT h H).get? b = none := PySem.W.hideAll_none (trk h H) hm
    rw [z] at e; cases e
def allNews (g h : Heap) (L : Addr) : List (Addr × Obj) := (List.range h.objs.size).filterMap fun a => if a = L ∨ (g.get? a).isSome = true then none else (h.get? a).map fun o => (a, o)
def rest (g h : Heap) (L d : Addr) : List (Addr × Obj) := (allNews g h L).filter fun p => decide (p.1 ≠ d)
end L2
namespace L2
open PySem PySem.Spec PyProof.Rows
structure Mod (K : PySem.W.Frag) (mg : Str → Option Value) (base : Heap) : Prop where
  kin : K.In base
  glob : base.Ns mainGlobals mg
  blt : ∃ mb, base.Ns builtinsNs mb ∧ ∀ x : Str, x ≠ "__name__" → mb x = bootBuiltins x
  nolimit : base.NoLimit
structure Cx where
  prog : Program
  w : World
  K : PySem.W.Frag
  mg : Str → Option Value
  base : Heap
  A : Around
  N : List Str
  s_0 : Shared
  H_0 : Hp
  env : Env
  outer : List Env
  stack : List Env
  ex : List Addr
  fn : Str → Bool
  calm : Bool
  pn : List (Addr × Obj)
  xe : Value → Shared → Prop
def frs (l : List Env) : List Addr := l.filterMap (·.frame)
abbrev Cx.fs (X : Cx) : List Addr := frs X.outer
def Vis (sc : Scope) (x : Str) : Prop := sc.names.lookup x = some .local ∨ sc.names.lookup x = some .cell ∨ sc.names.lookup x = some .free
def Loc (sc : Scope) (x : Str) : Prop := sc.names.lookup x = some .local ∨ sc.names.lookup x = some .cell
def Look (env : Env) (h : Heap) (m : Str → Option Value) (x : Str) (u : Value) : Prop :=
  (env.kindOf x = some .local ∧ m x = some u) ∨ ((env.kindOf x = some .cell ∨ env.kindOf x = some .free) ∧ ∃ c, env.cells.lookup x = some c ∧ h.IsCell c (some u))
structure Cx.Ok (X : Cx) : Prop where
  mod : Mod X.K X.mg X.base
  kind : X.env.scope.kind = .function
  glob : X.env.globals = mainGlobals
  blt : X.env.builtins = builtinsNs
  above : X.s_0.heap.objs.size ≤ X.env.locals
  inj : ∀ x y c, X.env.cells.lookup x = some c → X.env.cells.lookup y = some c → x = y
  has : ∀ x, (X.env.kindOf x = some .cell ∨ X.env.kindOf x = some .free) → ∃ c, X.env.cells.lookup x = some c
  cab : ∀ x c, X.fn x = true → X.env.cells.lookup x = some c → X.s_0.heap.objs.size ≤ c
  hd : X.calm = true → X.A.handled = none
  frames : X.A.frames = some X.stack
  stk : X.stack = X.outer ∨ (X.stack = X.env :: X.outer ∧ X.env.frame = some X.env.locals)
  exf : ∀ b ∈ X.ex, b ≠ X.env.locals ∧ ∀ x c, X.env.cells.lookup x = some c → c ≠ b
  bs : ∀ b o, X.base.get? b = some o → X.s_0.heap.get? b = some o ∧ X.H_0 b = none
  bsz : X.base.objs.size ≤ X.s_0.heap.objs.size
  noex : ∀ b o, X.base.get? b = some o → b ∉ X.ex
  exfs : ∀ b ∈ X.ex, b ∉ X.fs
  funs : X.s_0.heap.FunFrames X.base X.outer
  frf : ∀ b ∈ X.fs, X.H_0 b = none
structure Inv (X : Cx) (pins : List (Addr × Obj)) (σ : List (Option V)) (H : Hp) (s : Shared) : Prop where
  ok : X.Ok
  os : s.os = X.s_0.os
  bare : AllBare s.gens
  base : Un X.fs X.ex X.H_0 H X.s_0.heap s.heap
  loc : ∃ m, s.heap.Ns X.env.locals m ∧ ∀ (i : Nat) (x : Str) (v : V), X.N[i]? = some x → σ[i]? = some (some v) → Vis X.env.scope x → ∃ u, RelV v u ∧ Look X.env s.heap m x u
  cell : ∀ x c, X.env.cells.lookup x = some c → ∃ v, s.heap.IsCell c v
  free : H X.env.locals = none
  freeC : ∀ x c, X.env.cells.lookup x = some c → H c = none
  pin : ∀ p ∈ X.pn ++ pins, s.heap.get? p.1 = some p.2 ∧ H p.1 = none ∧ p.1 ≠ X.env.locals ∧ p.1 ∉ X.fs ∧ ∀ v, p.2.data ≠ .cell v
  hok : HOk X.prog X.w H s.heap
  len : σ.length = X.N.length
section
variable {X : Cx} {pins : List (Addr × Obj)} {σ : List (Option V)} {H H' : Hp} {s : Shared} {h' : Heap}
theorem Cx.Ok.nofr (ok : X.Ok) {b : Addr} {o : Obj} (e : X.base.get? b = some o) : b ∉ X.fs := fun hb => by
  have := (ok.funs.mem hb).1
  rw [e] at this; cases this
theorem Inv.bs (I : Inv X pins σ H s) : ∀ b o, X.base.get? b = some o → s.heap.get? b = some o ∧ H b = none := fun b o e =>
  ⟨I.base.keep b o (I.ok.bs b o e).1 (I.ok.bs b o e).2 (I.ok.nofr e) (I.ok.noex b o e), I.base.free b o (I.ok.bs b o e).1 (I.ok.bs b o e).2 (I.ok.noex b o e)⟩
theorem Inv.bk (I : Inv X pins σ H s) : ∀ b o, X.base.get? b = some o → s.heap.get? b = some o := fun b o e => (I.bs b o e).1
theorem Inv.mod (I : Inv X pins σ H s) : Mod X.K X.mg X.base := I.ok.mod
theorem Inv.kIn (I : Inv X pins σ H s) : X.K.In s.heap := I.ok.mod.kin.keeps I.bk
theorem Inv.nolimit (I : Inv X pins σ H s) : s.heap.NoLimit := I.ok.mod.nolimit.keeps I.bk
theorem Inv.fr (I : Inv X pins σ H s) : ∃ m, Fr X.base X.env.locals s.heap m :=
  let ⟨m, hn, _⟩ := I.loc
  ⟨m, hn, I.bk, Nat.le_trans I.ok.bsz I.ok.above⟩
theorem Inv.lt (I : Inv X pins σ H s) : X.env.locals < s.heap.objs.size := let ⟨_, hn, _⟩ := I.loc; hn.lt
theorem Inv.sz (I : Inv X pins σ H s) : X.s_0.heap.objs.size ≤ s.heap.objs.size := Nat.le_trans I.ok.above (Nat.le_of_lt I.lt)
theorem Inv.nofs (I : Inv X pins σ H s) {a : Addr} (h : s.heap.objs.size ≤ a) : a ∉ X.fs := fun hb => by
  obtain ⟨_, o, ho, _⟩ := I.ok.funs.mem hb
  exact absurd (Nat.lt_of_lt_of_le (Heap.lt_size ho) (Nat.le_trans I.sz h)) (Nat.lt_irrefl _)
theorem Inv.cne (I : Inv X pins σ H s) : ∀ x c, X.env.cells.lookup x = some c → c ≠ X.env.locals := fun x c e z => by
  obtain ⟨v, o, ho, hd⟩ := I.cell x c e
  obtain ⟨m, ⟨o', es, ep, ho', hd', _⟩, _⟩ := I.loc
  rw [z, ho'] at ho; cases ho; rw [hd'] at hd; cases hd
theorem Inv.funs (I : Inv X pins σ H s) : s.heap.FunFrames X.base X.outer := by
  have all : ∀ (l : List Env), (∀ b ∈ frs l, b ∈ X.fs) → X.s_0.heap.FunFrames X.base l → s.heap.FunFrames X.base l := by
    intro l
    induction l with
    | nil => intro _ _; trivial
    | cons env r ih =>
      intro hs hl
      obtain ⟨hk, ⟨L, o, hf, hn, ho, hd⟩, hr⟩ := hl
      have hL : L ∈ X.fs := hs L (by unfold frs; rw [List.filterMap_cons, hf]; exact List.mem_cons_self)
      obtain ⟨sl, e⟩ := I.base.slot L o ho (I.ok.frf L hL) hL fun z => I.ok.exfs L z hL
      exact ⟨hk, ⟨L, _, hf, hn, e, hd⟩, ih (fun b hb => hs b (by unfold frs; rw [List.filterMap_cons, hf]; exact List.mem_cons_of_mem _ hb)) hr⟩
  exact all X.outer (fun _ hb => hb) I.ok.funs
theorem Inv.stack (I : Inv X pins σ H s) : s.heap.FunFrames X.base X.stack := by
  rcases I.ok.stk with e | ⟨e, hf⟩
  · rw [e]; exact I.funs
  · rw [e]
    obtain ⟨m, hn, _⟩ := I.loc
    refine .cons (by rw [I.ok.kind]; decide) hf hn ?_ I.funs
    exact Heap.get?_none_of_le (Nat.le_trans I.ok.bsz I.ok.above)
theorem Inv.stkSub (I : Inv X pins σ H s) : ∀ b ∈ frs X.stack, b ∈ X.env.locals :: X.fs := fun b hb => by
  rcases I.ok.stk with e | ⟨e, hf⟩
  · rw [e] at hb; exact List.mem_cons_of_mem _ hb
  · rw [e] at hb
    unfold frs at hb
    rw [List.filterMap_cons, hf] at hb
    exact hb
theorem Inv.stkFree (I : Inv X pins σ H s) : ∀ b ∈ frs X.stack, H b = none := fun b hb => by
  rcases List.mem_cons.mp (I.stkSub b hb) with e | hb
  · rw [e]; exact I.free
  · obtain ⟨_, o, ho, _⟩ := I.ok.funs.mem hb
    exact I.base.free b o ho (I.ok.frf b hb) fun z => I.ok.exfs b z hb
theorem Inv.step {g' : Array GenState} {t' : Nat} {d' : Drawn} {ch : List Addr} (I : Inv X pins σ H s)
    (hch : ∀ b ∈ ch, (b ∈ X.ex ∨ X.s_0.heap.objs.size ≤ b) ∧ b ≠ X.env.locals ∧ (∀ x c, X.env.cells.lookup x = some c → c ≠ b) ∧ ∀ p ∈ X.pn ++ pins, p.1 ≠ b)
    (keep : ∀ b o, b ≠ X.env.locals → b ∉ X.fs → b ∉ ch → s.heap.get? b = some o → H b = none → h'.get? b = some o)
    (slot : ∀ b o, b ≠ X.env.locals → b ∈ X.fs → b ∉ ch → s.heap.get? b = some o → H b = none → ∃ sl, h'.get? b = some { o with slots := sl }) (free : ∀ b o, b ∉ ch → s.heap.get? b = some o → H b = none → H' b = none)
    (there : ∀ b o, b ∉ ch → s.heap.get? b = some o → ∃ o', h'.get? b = some o')
    (tups : ∀ b xs, H b = some (.tup xs) → H' b = some (.tup xs)) (frzs : ∀ b o u, H b = some (.frz o u) → H' b = some (.frz o u)) (tbls : ∀ b ps, H b = some (.tbl ps) → ∃ more, H' b = some (.tbl (ps ++ more)))
    (ns : ∀ m, s.heap.Ns X.env.locals m → h'.Ns X.env.locals m) (hok : HOk X.prog X.w H' h') (hg : AllBare g') :
    Inv X pins σ H' { s with heap := h', gens := g', drawn := d', toks := t' } := by
  have neL : ∀ b o, X.s_0.heap.get? b = some o → b ≠ X.env.locals := fun b o e => Nat.ne_of_lt (Nat.lt_of_lt_of_le (Heap.lt_size e) I.ok.above)
  have neC : ∀ b o, X.s_0.heap.get? b = some o → b ∉ X.ex → b ∉ ch := fun b o e hx hb => by
    rcases (hch b hb).1 with z | z
    · exact hx z
    · exact absurd (Nat.lt_of_lt_of_le (Heap.lt_size e) z) (Nat.lt_irrefl _)
  have cellK : ∀ x c, X.env.cells.lookup x = some c → ∀ v, s.heap.IsCell c v → h'.IsCell c v := fun x c e v ⟨o, ho, hd⟩ => by
    have nch : c ∉ ch := fun z => (hch c z).2.2.1 x c e rfl
    by_cases hc : c ∈ X.fs
    · obtain ⟨sl, q⟩ := slot c o (I.cne x c e) hc nch ho (I.freeC x c e)
      exact ⟨_, q, hd⟩
    · exact ⟨o, keep c o (I.cne x c e) hc nch ho (I.freeC x c e), hd⟩
  refine ⟨I.ok, I.os, hg, ⟨fun b o e n hb hx => ?_, fun b o e n hb hx => ?_, fun b o e n hx => ?_, fun b o e hx => ?_, fun b xs e => tups b xs (I.base.tups b xs e), fun b o xs e => frzs b o xs (I.base.frzs b o xs e), fun b ps e => ?_⟩, ?_, fun x c e => ?_, ?_, fun x c e => ?_, fun p hp => ?_, hok, I.len⟩
  · exact keep b o (neL b o e) hb (neC b o e hx) (I.base.keep b o e n hb hx) (I.base.free b o e n hx)
  · obtain ⟨sl, e1⟩ := I.base.slot b o e n hb hx
    obtain ⟨sl', e2⟩ := slot b _ (neL b o e) hb (neC b o e hx) e1 (I.base.free b o e n hx)
    exact ⟨sl', e2⟩
  · obtain ⟨o', e1⟩ := I.base.there b o e hx
    exact free b o' (neC b o e hx) e1 (I.base.free b o e n hx)
  · obtain ⟨o', e1⟩ := I.base.there b o e hx
    exact there b o' (neC b o e hx) e1
  · obtain ⟨m1, e1⟩ := I.base.tbls b ps e
    obtain ⟨m2, e2⟩ := tbls b _ e1
    exact ⟨m1 ++ m2, by rw [e2, Array.append_assoc]⟩
  · obtain ⟨m, hn, hl⟩ := I.loc
    refine ⟨m, ns m hn, fun i x v e1 e2 e3 => ?_⟩
    obtain ⟨u, r, l⟩ := hl i x v e1 e2 e3
    refine ⟨u, r, ?_⟩
    rcases l with l | ⟨k, c, e, z⟩
    · exact .inl l
    · exact .inr ⟨k, c, e, cellK x c e _ z⟩
  · obtain ⟨v, z⟩ := I.cell x c e
    exact ⟨v, cellK x c e v z⟩
  · obtain ⟨m, ⟨o, _, _, ho, _⟩, _⟩ := I.loc
    exact free _ o (fun z => (hch _ z).2.1 rfl) ho I.free
  · obtain ⟨v, o, ho, hd⟩ := I.cell x c e
    exact free c o (fun z => (hch c z).2.2.1 x c e rfl) ho (I.freeC x c e)
  · obtain ⟨e, n, ne, nf, d⟩ := I.pin p hp
    have nch : p.1 ∉ ch := fun z => (hch p.1 z).2.2.2 p hp rfl
    exact ⟨keep p.1 p.2 ne nf nch e n, free p.1 p.2 nch e n, ne, nf, d⟩
theorem Inv.un {t' : Nat} (I : Inv X pins σ H s) (u : Un X.fs [] H H' s.heap h') (hok : HOk X.prog X.w H' h') : Inv X pins σ H' { s with heap := h', toks := t' } := by
  obtain ⟨m, ⟨o, es, ep, ho, r⟩, _⟩ := id I.loc
  obtain ⟨sl, hL⟩ := u.any ho I.free (by simp)
  exact I.step (g' := s.gens) (d' := s.drawn) (ch := []) (fun _ z => nomatch z) (fun b o _ hb _ e n => u.keep b o e n hb (by simp)) (fun b o _ hb _ e n => u.slot b o e n hb (by simp)) (fun b o _ e n => u.free b o e n (by simp)) (fun b o _ e => u.there b o e (by simp)) u.tups u.frzs u.tbls (fun m' hm => by
    obtain ⟨o', es', ep', ho', r'⟩ := hm
    rw [ho] at ho'; cases ho'
    exact ⟨_, es', ep', hL, r'⟩) hok I.bare
theorem Inv.call {g' : Array GenState} {t' : Nat} {d' : Drawn} {ch : List Addr} (I : Inv X pins σ H s) (u : Un (frs X.stack) ch H H' s.heap h') (hok : HOk X.prog X.w H' h') (hg : AllBare g')
    (hch : ∀ b ∈ ch, (b ∈ X.ex ∨ X.s_0.heap.objs.size ≤ b) ∧ b ≠ X.env.locals ∧ (∀ x c, X.env.cells.lookup x = some c → c ≠ b) ∧ ∀ p ∈ X.pn ++ pins, p.1 ≠ b) :
    Inv X pins σ H' { s with heap := h', gens := g', drawn := d', toks := t' } := by
  obtain ⟨m, ⟨o, es, ep, ho, r⟩, _⟩ := id I.loc
  obtain ⟨sl, hL⟩ := u.any ho I.free fun z => (hch _ z).2.1 rfl
  exact I.step (ch := ch) hch (fun b o hL hb hc e n => u.keep b o e n (fun z => (List.mem_cons.mp (I.stkSub b z)).elim hL hb) hc) (fun b o _ _ hc e n => u.any e n hc) (fun b o hc e n => u.free b o e n hc) (fun b o hc e => u.there b o e hc) u.tups u.frzs u.tbls (fun m' hm => by
    obtain ⟨o', es', ep', ho', r'⟩ := hm
    rw [ho] at ho'; cases ho'
    exact ⟨_, es', ep', hL, r'⟩) hok hg
theorem Inv.turned {t' : Nat} {it : Addr} (I : Inv X pins σ H s) (k : ∀ b o, b ≠ it → s.heap.get? b = some o → h'.get? b = some o) (hn : H it = none) (hL : it ≠ X.env.locals)
    (h1 : it ∈ X.ex ∨ X.s_0.heap.objs.size ≤ it) (h2 : ∀ x c, X.env.cells.lookup x = some c → c ≠ it) (h3 : ∀ p ∈ X.pn ++ pins, p.1 ≠ it) : Inv X pins σ H { s with heap := h', toks := t' } := by
  have nit : ∀ b u, H b = some u → b ≠ it := fun b u e z => by rw [z, hn] at e; cases e
  refine I.step (g' := s.gens) (d' := s.drawn) (ch := [it]) (fun b hb => ?_) (fun b o _ _ hc e _ => k b o (fun z => hc (by simp [z])) e) (fun b o _ _ hc e _ => ⟨o.slots, k b o (fun z => hc (by simp [z])) e⟩) (fun _ _ _ _ n => n)
    (fun b o hc e => ⟨o, k b o (fun z => hc (by simp [z])) e⟩) (fun _ _ e => e) (fun _ _ _ e => e) (fun b ps e => ⟨#[], by rw [e]; simp⟩) (fun m hm => ?_) (fun b u e => ?_) I.bare
  · have e : b = it := by simpa using hb
    subst e
    exact ⟨h1, hL, h2, h3⟩
  · obtain ⟨o, es, ep, ho, r⟩ := hm
    exact ⟨o, es, ep, k _ o (Ne.symm hL) ho, r⟩
  · refine (I.hok b u e).stay (fun c v hc q => k c v ?_ q) (fun _ q => q) fun _ _ q => q
    rcases hc with z | z
    · rw [z]; exact nit b u e
    · exact nit c _ z
theorem Inv.tok (I : Inv X pins σ H s) (t : Nat) : Inv X pins σ H { s with toks := t } := I.un (h' := s.heap) (t' := t) Un.refl I.hok
theorem Inv.kept {t' : Nat} (I : Inv X pins σ H s) (k : ∀ b u, s.heap.get? b = some u → h'.get? b = some u) : Inv X pins σ H { s with heap := h', toks := t' } := I.un (Un.kept k) (I.hok.kept k)
theorem Inv.laid {a : Addr} {o : HO} {t' : Nat} (I : Inv X pins σ H s) (k : ∀ b u, s.heap.get? b = some u → h'.get? b = some u) (hp : s.heap.objs.size ≤ a) (new : ObjOk X.prog X.w (upd H a o) h' a o) :
    Inv X pins σ (upd H a o) { s with heap := h', toks := t' } := I.un (Un.laid k hp (I.hok.fresh hp)) (I.hok.laid k hp new)
theorem Inv.write {x e : Addr} {o : HO} {t' : Nat} (I : Inv X pins σ H s) (mu : Mut (H x)) (he : e = x ∨ H e = some (.own x)) (k : ∀ b u, b ≠ e → s.heap.get? b = some u → h'.get? b = some u) (heo : ∃ u, h'.get? e = some u)
    (new : ObjOk X.prog X.w (upd H x o) h' x o) : Inv X pins σ (upd H x o) { s with heap := h', toks := t' } := I.un (Un.write mu he k heo) (I.hok.write mu he k heo new)
theorem Inv.weak {σ' : List (Option V)} (I : Inv X pins σ H s) (hl : σ'.length = σ.length) (w : ∀ (i : Nat) v, σ'[i]? = some (some v) → σ[i]? = some (some v)) : Inv X pins σ' H s :=
  ⟨I.ok, I.os, I.bare, I.base, let ⟨m, hn, hl'⟩ := I.loc; ⟨m, hn, fun i x v e1 e2 e3 => hl' i x v e1 (w i v e2) e3⟩, I.cell, I.free, I.freeC, I.pin, I.hok, hl.trans I.len⟩
theorem Inv.pins_of {pins' : List (Addr × Obj)} (I : Inv X pins σ H s) (h : ∀ p ∈ pins', s.heap.get? p.1 = some p.2 ∧ H p.1 = none ∧ p.1 ≠ X.env.locals ∧ p.1 ∉ X.fs ∧ ∀ v, p.2.data ≠ .cell v) : Inv X pins' σ H s :=
  ⟨I.ok, I.os, I.bare, I.base, I.loc, I.cell, I.free, I.freeC, fun p hp => (List.mem_append.mp hp).elim (fun z => I.pin p (List.mem_append_left _ z)) (h p), I.hok, I.len⟩
theorem nodup_ix {N : List Str} (hN : N.Nodup) {i j : Nat} {x : Str} (a : N[i]? = some x) (b : N[j]? = some x) : i = j := by
  obtain ⟨h1, e1⟩ := List.getElem?_eq_some_iff.mp a
  obtain ⟨h2, e2⟩ := List.getElem?_eq_some_iff.mp b
  exact (List.getElem_inj hN).mp (e1.trans e2.symm)
theorem store_ok2 {M : Model} {A : Around} {E : Value → Shared → Prop} {i : Nat} {x : Str} {v : V} {u : Value} {Q : Unit → Shared → Prop} (I : Inv X pins σ H s) (hN : X.N.Nodup) (hi : X.N[i]? = some x) (hx : Loc X.env.scope x) (r : RelV v u)
    (h : ∀ s', Inv X pins (σ.set i (some v)) H s' → (∃ a, Heap.SameBut a s.heap s'.heap ∧ (a = X.env.locals ∨ X.env.cells.lookup x = some a)) → Q () s') (hf : X.fn x = true ∨ X.env.scope.names.lookup x = some .local := by first | exact .inl rfl | exact .inr rfl | assumption) : wpAny M A (storeName X.env x u) Q E s := by
  obtain ⟨m, hn, hl⟩ := id I.loc
  have hcls : (X.env.scope.kind == .class || (X.env.scope.kind == .module && X.env.locals != X.env.globals)) = false := by rw [I.ok.kind]; rfl
  have hiσ : i < σ.length := by rw [I.len]; exact (List.getElem?_eq_some_iff.mp hi).1
  have cne := I.cne
  have tracked : ∀ {a : Addr} {h' : Heap}, (∃ o, s.heap.get? a = some o ∧ H a = none) → Heap.SameBut a s.heap h' → HOk X.prog X.w H h' := fun {a h'} ha hs b ob e => by
    obtain ⟨_, _, hfree⟩ := ha
    refine (I.hok b ob e).stay (fun c w' hc q => (hs.2 c ?_).trans q) (fun _ q => q) fun _ _ q => q
    rintro rfl
    rcases hc with rfl | hc
    · rw [hfree] at e; cases e
    · rw [hfree] at hc; cases hc
  rcases hx with hk | hk
  · refine wpAny_storeName_local hk hn (fun h' hn' hs => ?_) hcls
    obtain ⟨oL, _, _, hoL, _⟩ := id hn
    refine h _ ⟨I.ok, I.os, I.bare, ⟨fun b o e n hb hx => ?_, fun b o e n hb hx => ?_, I.base.free, fun b o e hx => ?_, I.base.tups, I.base.frzs, I.base.tbls⟩, ⟨_, hn', fun j y v' e1 e2 e3 => ?_⟩, fun y c e => ?_, I.free, I.freeC, fun p hp => ?_, tracked ⟨oL, hoL, I.free⟩ hs, by simpa using I.len⟩ ⟨_, hs, .inl rfl⟩
    · exact (hs.2 b (Nat.ne_of_lt (Nat.lt_of_lt_of_le (Heap.lt_size e) I.ok.above))).trans (I.base.keep b o e n hb hx)
    · obtain ⟨sl, e1⟩ := I.base.slot b o e n hb hx
      exact ⟨sl, (hs.2 b (Nat.ne_of_lt (Nat.lt_of_lt_of_le (Heap.lt_size e) I.ok.above))).trans e1⟩
    · obtain ⟨o', e1⟩ := I.base.there b o e hx
      exact ⟨o', (hs.2 b (Nat.ne_of_lt (Nat.lt_of_lt_of_le (Heap.lt_size e) I.ok.above))).trans e1⟩
    · by_cases hj : j = i
      · subst hj
        rw [hi] at e1; cases e1
        rw [List.getElem?_set_self hiσ] at e2
        cases e2
        exact ⟨u, r, .inl ⟨hk, by simp⟩⟩
      · rw [List.getElem?_set_ne (Ne.symm hj)] at e2
        obtain ⟨u', r', q⟩ := hl j y v' e1 e2 e3
        refine ⟨u', r', ?_⟩
        rcases q with ⟨k, e⟩ | ⟨k, c, e, z⟩
        · refine .inl ⟨k, ?_⟩
          have : y ≠ x := fun e => hj (nodup_ix hN e1 (e ▸ hi))
          simp [this, e]
        · exact .inr ⟨k, c, e, z.sameBut hs (cne y c e)⟩
    · obtain ⟨w', z⟩ := I.cell y c e
      exact ⟨w', z.sameBut hs (cne y c e)⟩
    · obtain ⟨e, n, ne, nf, d⟩ := I.pin p hp
      exact ⟨(hs.2 p.1 ne).trans e, n, ne, nf, d⟩
  · have hfn : X.fn x = true := by
      rcases hf with z | z
      · exact z
      · rw [z] at hk; cases hk
    obtain ⟨c, hc⟩ := I.ok.has x (.inl hk)
    obtain ⟨w', z⟩ := I.cell x c hc
    refine wpAny_storeName_cell I.ok.kind hk hc z (fun h' hc' hs => ?_)
    obtain ⟨oc, hoc, hocd⟩ := id z
    refine h { s with heap := h' } ⟨I.ok, I.os, I.bare, ⟨fun b o e n hb hx => ?_, fun b o e n hb hx => ?_, I.base.free, fun b o e hx => ?_, I.base.tups, I.base.frzs, I.base.tbls⟩, ⟨m, hn.sameBut hs (Ne.symm (cne x c hc)), fun j y v' e1 e2 e3 => ?_⟩, fun y c' e => ?_, I.free, I.freeC, fun p hp => ?_, tracked ⟨oc, hoc, I.freeC x c hc⟩ hs, by simpa using I.len⟩ ⟨c, hs, .inr hc⟩
    · exact (hs.2 b (Nat.ne_of_lt (Nat.lt_of_lt_of_le (Heap.lt_size e) (I.ok.cab x c hfn hc)))).trans (I.base.keep b o e n hb hx)
    · obtain ⟨sl, e1⟩ := I.base.slot b o e n hb hx
      exact ⟨sl, (hs.2 b (Nat.ne_of_lt (Nat.lt_of_lt_of_le (Heap.lt_size e) (I.ok.cab x c hfn hc)))).trans e1⟩
    · obtain ⟨o', e1⟩ := I.base.there b o e hx
      exact ⟨o', (hs.2 b (Nat.ne_of_lt (Nat.lt_of_lt_of_le (Heap.lt_size e) (I.ok.cab x c hfn hc)))).trans e1⟩
    · by_cases hj : j = i
      · subst hj
        rw [hi] at e1; cases e1
        rw [List.getElem?_set_self hiσ] at e2
        cases e2
        exact ⟨u, r, .inr ⟨.inl hk, c, hc, hc'⟩⟩
      · rw [List.getElem?_set_ne (Ne.symm hj)] at e2
        obtain ⟨u', r', q⟩ := hl j y v' e1 e2 e3
        refine ⟨u', r', ?_⟩
        rcases q with q | ⟨k, c', e, z'⟩
        · exact .inl q
        · refine .inr ⟨k, c', e, z'.sameBut hs ?_⟩
          rintro rfl
          exact hj (nodup_ix hN e1 (I.ok.inj _ _ _ e hc ▸ hi))
    · by_cases hcc : c' = c
      · subst hcc; exact ⟨_, hc'⟩
      · obtain ⟨w2, z2⟩ := I.cell y c' e
        exact ⟨w2, z2.sameBut hs hcc⟩
    · obtain ⟨e, n, ne, nf, d⟩ := I.pin p hp
      refine ⟨(hs.2 p.1 ?_).trans e, n, ne, nf, d⟩
      intro q
      rw [q, hoc] at e
      have q' : oc = p.2 := Option.some.inj e
      exact d w' (by rw [← q']; exact hocd)
theorem store_ok {M : Model} {A : Around} {E : Value → Shared → Prop} {i : Nat} {x : Str} {v : V} {u : Value} {Q : Unit → Shared → Prop} (I : Inv X pins σ H s) (hN : X.N.Nodup) (hi : X.N[i]? = some x) (hx : Loc X.env.scope x) (r : RelV v u)
    (h : ∀ s', Inv X pins (σ.set i (some v)) H s' → Q () s') (hf : X.fn x = true ∨ X.env.scope.names.lookup x = some .local := by first | exact .inl rfl | exact .inr rfl | assumption) : wpAny M A (storeName X.env x u) Q E s :=
  store_ok2 I hN hi hx r (fun s' I' _ => h s' I') hf
theorem Inv.call' {s' : Shared} {ch : List Addr} (I : Inv X pins σ H s) (ho : s'.os = s.os) (u : Un (frs X.stack) ch H H' s.heap s'.heap) (hok : HOk X.prog X.w H' s'.heap) (hg : AllBare s'.gens)
    (hch : ∀ b ∈ ch, (b ∈ X.ex ∨ X.s_0.heap.objs.size ≤ b) ∧ b ≠ X.env.locals ∧ (∀ x c, X.env.cells.lookup x = some c → c ≠ b) ∧ ∀ p ∈ X.pn ++ pins, p.1 ≠ b) : Inv X pins σ H' s' := by
  obtain ⟨h', g', d', t', o'⟩ := s'
  have e : o' = s.os := ho
  subst e
  exact I.call (g' := g') (t' := t') (d' := d') u hok hg hch
end
abbrev XK := Value → Option Addr → Hp → Prop
abbrev St := List (Option V)
abbrev VK := V → Hp → Prop
abbrev TE := St → Hp → VK → Prop
abbrev TT := St → Hp → (Bool → Hp → Prop) → Prop
abbrev TA := St → Hp → (List V → Hp → Prop) → Prop
structure Ends where
  nx : St → Hp → Prop
  rt : VK
  bk : St → Hp → Prop := fun _ _ => False
  ct : St → Hp → Prop := fun _ _ => False
abbrev TS := Ends → St → Hp → Prop
def EP (X : Cx) (pins : List (Addr × Obj)) (σ : St) (Q : VK) (u : Value) (s' : Shared) : Prop := ∃ v H', Inv X pins σ H' s' ∧ RelV v u ∧ Q v H'
def TP (X : Cx) (pins : List (Addr × Obj)) (σ : St) (Q : Bool → Hp → Prop) (b : Bool) (s' : Shared) : Prop := ∃ H', Inv X pins σ H' s' ∧ Q b H'
def AP (X : Cx) (pins : List (Addr × Obj)) (σ : St) (Q : List V → Hp → Prop) (us : List Value) (s' : Shared) : Prop := ∃ vs H', Inv X pins σ H' s' ∧ Vals vs us ∧ Q vs H'
def SP (X : Cx) (pins : List (Addr × Obj)) (D : Ends) (f : Flow) (s' : Shared) : Prop :=
  match f with
  | .next => ∃ σ' H', Inv X pins σ' H' s' ∧ D.nx σ' H'
  | .brk => ∃ σ' H', Inv X pins σ' H' s' ∧ D.bk σ' H'
  | .cont => ∃ σ' H', Inv X pins σ' H' s' ∧ D.ct σ' H'
  | .ret u => ∃ v σ' H', Inv X pins σ' H' s' ∧ RelV v u ∧ D.rt v H'
def PE (X : Cx) (e : Expr) (t : TE) : Prop :=
  ∀ (pins : List (Addr × Obj)) (s : Shared) (σ : St) (H : Hp) (Q : VK), Inv X pins σ H s → t σ H Q → wpAny (model X.prog X.w) X.A (eval e X.env) (EP X pins σ Q) X.xe s
def PT (X : Cx) (e : Expr) (t : TT) : Prop :=
  ∀ (pins : List (Addr × Obj)) (s : Shared) (σ : St) (H : Hp) (Q : Bool → Hp → Prop), Inv X pins σ H s → t σ H Q → wpAny (model X.prog X.w) X.A (isTrue e X.env (eval e X.env)) (TP X pins σ Q) X.xe s
def PW (X : Cx) (e : Expr) (t : TT) : Prop :=
  ∀ (whole : Sem Value) (pins : List (Addr × Obj)) (s : Shared) (σ : St) (H : Hp) (Q : Bool → Hp → Prop), Inv X pins σ H s → t σ H Q → wpAny (model X.prog X.w) X.A (isTrue e X.env whole) (TP X pins σ Q) X.xe s
theorem PW.pt {X : Cx} {e : Expr} {t : TT} (h : PW X e t) : PT X e t := h _
def PA (X : Cx) (es : List Expr) (t : TA) : Prop :=
  ∀ (pos : Pos) (pins : List (Addr × Obj)) (s : Shared) (σ : St) (H : Hp) (Q : List V → Hp → Prop), Inv X pins σ H s → t σ H Q → wpAny (model X.prog X.w) X.A (spliced (backTo pos (starEach es X.env))) (AP X pins σ Q) X.xe s
def PS (X : Cx) (st : Stmt) (t : TS) : Prop :=
  ∀ (pins : List (Addr × Obj)) (s : Shared) (σ : St) (H : Hp) (D : Ends), Inv X pins σ H s → t D σ H → wpAny (model X.prog X.w) X.A (exec st X.env) (SP X pins D) X.xe s
def PSs (X : Cx) (st : List Stmt) (t : TS) : Prop :=
  ∀ (pins : List (Addr × Obj)) (s : Shared) (σ : St) (H : Hp) (D : Ends), Inv X pins σ H s → t D σ H → wpAny (model X.prog X.w) X.A (execs st X.env) (SP X pins D) X.xe s
theorem thn {α : Type} {t : Sem α} {Q Q' : α → Shared → Prop} {M : Model} {A : Around} {E : Value → Shared → Prop} {s : Shared} (h : wpAny M A t Q E s) (hQ : ∀ a s, Q a s → Q' a s) : wpAny M A t Q' E s := wpAny_mono h hQ fun _ _ x => x
end L2
namespace L2
open PySem PySem.Spec PyProof.Rows
section
variable {X : Cx}
def tVar (i : Nat) : TE := fun σ H Q => ∃ v, σ[i]? = some (some v) ∧ Q v H
def tC (v : V) : TE := fun _ H Q => Q v H
theorem pe_var {i : Nat} {x : Str} {pos : Pos} (hN : X.N[i]? = some x) (hv : Vis X.env.scope x) (hd : (x == ("__debug__" : Str)) = false := by decide) (hcd : (x == ("__classdict__" : Str)) = false := by decide) : PE X (.Name x pos) (tVar i) := by
  intro pins s σ H Q I h
  obtain ⟨v, e, h⟩ := h
  obtain ⟨m, hn, hl⟩ := I.loc
  obtain ⟨u, r, l⟩ := hl i x v hN e hv
  have fin : EP X pins σ Q u s := ⟨v, H, I, r, h⟩
  rcases l with ⟨hk, hm⟩ | ⟨hk, c, hc, hcell⟩
  · exact wpAny_Name (wpAny_loadName_local I.ok.kind hk hn hm fin) hd
  · rcases hk with hk | hk
    · exact wpAny_Name (wpAny_loadName_cell I.ok.kind hk hc hcell fin) hd
    · exact wpAny_Name (wpAny_loadName_free I.ok.kind hk hc hcell fin hcd) hd
theorem pe_int {i j pos} : PE X (.Constant (.int i) j pos) (tC (.int i)) := fun _ _ _ H _ I h => wpAny_Constant_int ⟨.int i, H, I.tok _, ⟨_, rfl⟩, h⟩
theorem pe_bl {b j pos} : PE X (.Constant (.bool b) j pos) (tC (.bl b)) := fun _ _ _ H _ I h => Constant_bool ⟨.bl b, H, I, rfl, h⟩
theorem pe_non {j pos} : PE X (.Constant .none j pos) (tC .non) := fun _ _ _ H _ I h => Constant_none ⟨.non, H, I, rfl, h⟩
def Gl (X : Cx) (x : Str) : Prop := X.env.kindOf x = some .globalImplicit
theorem ld_glob {E : Value → Shared → Prop} {pins : List (Addr × Obj)} {s : Shared} {σ : St} {H : Hp} {x : Str} {u : Value} {pos : Pos} {Q : Value → Shared → Prop} (I : Inv X pins σ H s) (hg : Gl X x) (hm : X.mg x = some u) (h : Q u s)
    (hd : (x == ("__debug__" : Str)) = false := by decide) : wpAny (model X.prog X.w) X.A (eval (.Name x pos) X.env) Q E s :=
  Calls.Name_function_global I.ok.kind hg (Calls.loadGlobal_global (by rw [I.ok.glob]; exact I.mod.glob.keeps I.bk) hm h) hd
theorem ld_blt {E : Value → Shared → Prop} {pins : List (Addr × Obj)} {s : Shared} {σ : St} {H : Hp} {x : Str} {u : Value} {pos : Pos} {Q : Value → Shared → Prop} (I : Inv X pins σ H s) (hg : Gl X x) (hm : X.mg x = none) (hv : bootBuiltins x = some u) (h : Q u s)
    (hn : x ≠ "__name__" := by decide) (hd : (x == ("__debug__" : Str)) = false := by decide) : wpAny (model X.prog X.w) X.A (eval (.Name x pos) X.env) Q E s := by
  obtain ⟨mb, h1, h2⟩ := I.mod.blt
  exact Calls.Name_function_global I.ok.kind hg (Calls.loadGlobal_builtin (by rw [I.ok.glob]; exact I.mod.glob.keeps I.bk) hm (by rw [I.ok.blt]; exact h1.keeps I.bk) ((h2 x hn).trans hv) h) hd
theorem pe_glob {x : Str} {v : V} {u : Value} {pos : Pos} (hg : Gl X x) (hm : X.mg x = some u) (r : RelV v u) (hd : (x == ("__debug__" : Str)) = false := by decide) : PE X (.Name x pos) (tC v) :=
  fun _ _ _ H _ I h => ld_glob I hg hm ⟨v, H, I, r, h⟩ hd
variable {a b : Expr} {ta tb : TE} {pos : Pos}
def PC (X : Cx) (op : CmpOp) (a b : Expr) (t : TE) : Prop :=
  ∀ (pins : List (Addr × Obj)) (s : Shared) (σ : St) (H : Hp) (Q : VK), Inv X pins σ H s → t σ H Q →
    wpAny (model X.prog X.w) X.A (eval a X.env) (fun v s₁ => wpAny (model X.prog X.w) X.A (eval b X.env) (fun u s₂ => wpAny (model X.prog X.w) X.A (compareOp op v u) (EP X pins σ Q) X.xe s₂) X.xe s₁) X.xe s
theorem nobehind (b : Expr) {op : CmpOp} (h : op ≠ .In) (h2 : op ≠ .NotIn) : behindInMarks op b = false := by
  have e1 : (op == CmpOp.In) = false := by cases op <;> first | rfl | exact absurd rfl h
  have e2 : (op == CmpOp.NotIn) = false := by cases op <;> first | rfl | exact absurd rfl h2
  cases b <;> simp [behindInMarks, e1, e2]
def tB (t : TE) : TT := fun σ H Q => t σ H fun x H1 => ∃ c, x = .bl c ∧ Q c H1
theorem pe_cmp {op : CmpOp} {t : TE} (h : PC X op a b t) (h1 : behindInMarks op b = false := by first | exact nobehind _ (by decide) (by decide) | rfl) : PE X (.Compare a [op] [b] pos) t := fun pins s σ H Q I hw => wpAny_Compare1 (h pins s σ H Q I hw) h1
theorem pt_cmp {op : CmpOp} {t : TE} (h : PC X op a b t) (h1 : behindInMarks op b = false := by first | exact nobehind _ (by decide) (by decide) | rfl) : PT X (.Compare a [op] [b] pos) (tB t) := by
  intro pins s σ H Q I hw
  refine wpAny_isTrue_Compare1 (thn (h pins s σ H _ I hw) fun v s1 h1 => thn h1 fun u s2 h2 => thn h2 fun c s3 ⟨x, H1, I1, r1, q1⟩ => ?_) h1
  obtain ⟨d, rfl, q⟩ := q1
  cases r1
  exact wpAny_truthy_bool ⟨H1, I1, q⟩
theorem pt_val {e : Expr} {t : TE} (h : PE X e t) (he : ∀ whole, isTrue e X.env whole = (do let v ← whole; standAt e.pos; holding [v] (truthy v)) := by intro _; rfl) : PT X e (tB t) := by
  intro pins s σ H Q I hw
  refine isTrue_plain (thn (h pins s σ H _ I hw) fun v s1 ⟨x, H1, I1, r1, q1⟩ => ?_) (he _)
  obtain ⟨d, rfl, q⟩ := q1
  cases r1
  exact wpAny_truthy_bool ⟨H1, I1, q⟩
variable {tA tB' : TT} {rest : List Expr}
def tAnd (t u : TT) : TT := fun σ H Q => t σ H fun c H1 => if c = true then u σ H1 Q else Q false H1
def tOr (t u : TT) : TT := fun σ H Q => t σ H fun c H1 => if c = true then Q true H1 else u σ H1 Q
def tNot (t : TT) : TT := fun σ H Q => t σ H fun c H1 => Q (!c) H1
theorem pw_and1 (ha : PT X a tA) : PW X (.BoolOp .And [a] pos) tA := by
  intro wh pins s σ H Q I h
  refine isTrue_and (thn (ha pins s σ H Q I h) fun c s1 e => ?_)
  cases c with
  | true => exact isTrue_and_nil e
  | false => exact e
theorem pw_or1 (ha : PT X a tA) : PW X (.BoolOp .Or [a] pos) tA := by
  intro wh pins s σ H Q I h
  refine isTrue_or (thn (ha pins s σ H Q I h) fun c s1 e => ?_)
  cases c with
  | false => exact isTrue_or_nil e
  | true => exact e
theorem pw_and (ha : PT X a tA) (hb : PW X (.BoolOp .And (b :: rest) pos) tB') : PW X (.BoolOp .And (a :: b :: rest) pos) (tAnd tA tB') := by
  intro wh pins s σ H Q I h
  refine isTrue_and (thn (ha pins s σ H _ I h) fun c s1 ⟨H1, I1, q1⟩ => ?_)
  cases c with
  | true => exact hb wh pins s1 σ H1 Q I1 q1
  | false => exact ⟨H1, I1, q1⟩
theorem pw_or (ha : PT X a tA) (hb : PW X (.BoolOp .Or (b :: rest) pos) tB') : PW X (.BoolOp .Or (a :: b :: rest) pos) (tOr tA tB') := by
  intro wh pins s σ H Q I h
  refine isTrue_or (thn (ha pins s σ H _ I h) fun c s1 ⟨H1, I1, q1⟩ => ?_)
  cases c with
  | true => exact ⟨H1, I1, q1⟩
  | false => exact hb wh pins s1 σ H1 Q I1 q1
theorem pt_not (ha : PT X a tA) : PT X (.UnaryOp .Not a pos) (tNot tA) := by
  intro pins s σ H Q I h
  exact isTrue_not (ha pins s σ H (fun c H1 => Q (!c) H1) I h)
def tAndV (ta tb : TE) : TE := fun σ H Q => ta σ H fun x H1 => ∃ c, x = .bl c ∧ if c = true then tb σ H1 Q else Q (.bl false) H1
def tOrV (ta tb : TE) : TE := fun σ H Q => ta σ H fun x H1 => ∃ c, x = .bl c ∧ if c = true then Q (.bl true) H1 else tb σ H1 Q
theorem pe_one {op} {t : TE} (h : PE X a t) : PE X (.BoolOp op [a] pos) t := fun pins s σ H Q I hw => BoolOp_one (h pins s σ H Q I hw)
theorem pe_and (ha : PE X a ta) (hb : PE X (.BoolOp .And (b :: rest) pos) tb) : PE X (.BoolOp .And (a :: b :: rest) pos) (tAndV ta tb) := by
  intro pins s σ H Q I h
  refine BoolOp_and (thn (ha pins s σ H _ I h) fun v s1 ⟨x, H1, I1, r1, q1⟩ => ?_)
  obtain ⟨c, rfl, q1⟩ := q1
  cases r1
  refine wpAny_truthy_bool ?_
  cases c with
  | true => exact hb pins s1 σ H1 Q I1 q1
  | false => exact ⟨.bl false, H1, I1, rfl, q1⟩
theorem pe_or (ha : PE X a ta) (hb : PE X (.BoolOp .Or (b :: rest) pos) tb) : PE X (.BoolOp .Or (a :: b :: rest) pos) (tOrV ta tb) := by
  intro pins s σ H Q I h
  refine BoolOp_or (thn (ha pins s σ H _ I h) fun v s1 ⟨x, H1, I1, r1, q1⟩ => ?_)
  obtain ⟨c, rfl, q1⟩ := q1
  cases r1
  refine wpAny_truthy_bool ?_
  cases c with
  | false => exact hb pins s1 σ H1 Q I1 q1
  | true => exact ⟨.bl true, H1, I1, rfl, q1⟩
def tIf (t : TT) (ta tb : TE) : TE := fun σ H Q => t σ H fun c H1 => if c = true then ta σ H1 Q else tb σ H1 Q
theorem pe_ifExp {c : Expr} (hc : PT X c tA) (ha : PE X a ta) (hb : PE X b tb) : PE X (.IfExp c a b pos) (tIf tA ta tb) := by
  intro pins s σ H Q I h
  refine wpAny_IfExp (thn (hc pins s σ H _ I h) fun d s1 ⟨H1, I1, q1⟩ => ?_)
  cases d with
  | true => exact ha pins s1 σ H1 Q I1 q1
  | false => exact hb pins s1 σ H1 Q I1 q1
end
end L2
namespace L2
open PySem PySem.Spec PyProof.Rows
def SqL (K : PySem.W.Frag) (H : Hp) (a : Addr) (xs : List V) : Prop :=
  Rd H a (.lst xs) ∨
    ∃ (o : Obj) (its : Array Value) (n : Nat), K.lookup a = some o ∧ o.cls = .type "list" ∧ o.dict = none ∧ o.data = .seq its n ∧ its.size ≤ sizeLine ∧ Vals xs its.toList
def SqT (K : PySem.W.Frag) (H : Hp) (a : Addr) (xs : List V) : Prop :=
  Rd H a (.tup xs) ∨
    ∃ (o : Obj) (its : Array Value) (n : Nat), K.lookup a = some o ∧ o.cls = .type "tuple" ∧ o.data = .seq its n ∧ its.size ≤ sizeLine ∧ Vals xs its.toList
def absV : Value → Option V
  | .none => some .non
  | .bool b => some (.bl b)
  | .int i _ => some (.int i)
  | .str x _ => some (.str x)
  | .bytes b _ => some (.byt b)
  | .float b _ => some (.flt b)
  | .ref a => some (.ref a)
  | .type n => some (.ty n)
  | _ => none
theorem RelV.abs {x : V} {u : Value} (r : RelV x u) : absV u = some x := by
  cases x with
  | non => cases r; rfl
  | bl _ => cases r; rfl
  | int _ => obtain ⟨t, rfl⟩ := r; rfl
  | str _ => obtain ⟨t, rfl⟩ := r; rfl
  | byt _ => obtain ⟨t, rfl⟩ := r; rfl
  | flt _ => obtain ⟨t, rfl⟩ := r; rfl
  | ref _ => cases r; rfl
  | ty _ => cases r; rfl
theorem RelV.inj {x y : V} {u : Value} (r : RelV x u) (q : RelV y u) : x = y := Option.some.inj (r.abs.symm.trans q.abs)
theorem Vals.inj : ∀ {xs ys : List V} {us : List Value}, Vals xs us → Vals ys us → xs = ys
  | _, _, _, .nil, .nil => rfl
  | _, _, _, .cons r t, .cons r' t' => by rw [r.inj r', Vals.inj t t']
section
variable {X : Cx} {pins : List (Addr × Obj)} {σ : St} {H : Hp} {s : Shared} {a : Addr} {xs ys : List V}
theorem SqL.of {K : PySem.W.Frag} (h : H a = some (.lst xs)) : SqL K H a xs := .inl (.inl h)
theorem SqT.of {K : PySem.W.Frag} (h : H a = some (.tup xs)) : SqT K H a xs := .inl (.inl h)
theorem Inv.list (I : Inv X pins σ H s) (h : SqL X.K H a xs) : ∃ its : List Value, Vals xs its ∧ PlainL s.heap a its.toArray ∧ xs.length ≤ sizeLine := by
  rcases h with h | ⟨o, its, n, hk, hc, hd, hs, hz, r⟩
  · obtain ⟨z, its, n, r, e⟩ := h.ok I.hok
    exact ⟨its, r, ⟨_, n, e, rfl, rfl, rfl⟩, z⟩
  · refine ⟨its.toList, r, ⟨o, n, I.kIn a o hk, hc, hd, by simpa using hs⟩, ?_⟩
    have e := r.length
    simp only [Array.length_toList] at e
    omega
theorem Inv.tuple (I : Inv X pins σ H s) (h : SqT X.K H a xs) : ∃ its : List Value, Vals xs its ∧ IsTup s.heap a its.toArray ∧ xs.length ≤ sizeLine := by
  rcases h with h | ⟨o, its, n, hk, hc, hs, hz, r⟩
  · obtain ⟨z, its, r, p⟩ := h.ok I.hok
    exact ⟨its, r, p, z⟩
  · refine ⟨its.toList, r, ⟨o, I.kIn a o hk, hc, n, by simpa using hs⟩, ?_⟩
    have e := r.length
    simp only [Array.length_toList] at e
    omega
theorem Inv.list_inj (I : Inv X pins σ H s) (h : SqL X.K H a xs) (h' : SqL X.K H a ys) : xs = ys := by
  obtain ⟨its, r, ⟨o, n, e, _, _, d⟩, _⟩ := I.list h
  obtain ⟨its', r', ⟨o', n', e', _, _, d'⟩, _⟩ := I.list h'
  rw [e] at e'; cases e'
  rw [d] at d'
  injection d' with d1 _
  have : its = its' := by simpa using congrArg Array.toList d1
  subst this
  exact r.inj r'
theorem Inv.tuple_inj (I : Inv X pins σ H s) (h : SqT X.K H a xs) (h' : SqT X.K H a ys) : xs = ys := by
  obtain ⟨its, r, ⟨o, e, _, n, d⟩, _⟩ := I.tuple h
  obtain ⟨its', r', ⟨o', e', _, n', d'⟩, _⟩ := I.tuple h'
  rw [e] at e'; cases e'
  rw [d] at d'
  injection d' with d1 _
  have : its = its' := by simpa using congrArg Array.toList d1
  subst this
  exact r.inj r'
end
abbrev Cx.wish (X : Cx) (E : Value → Shared → Prop) : Cx := { X with xe := E }
abbrev Cx.nox (X : Cx) : Cx := X.wish fun _ _ => False
theorem Cx.Ok.wish {X : Cx} (ok : X.Ok) (E : Value → Shared → Prop) : (X.wish E).Ok :=
  ⟨ok.mod, ok.kind, ok.glob, ok.blt, ok.above, ok.inj, ok.has, ok.cab, ok.hd, ok.frames, ok.stk, ok.exf, ok.bs, ok.bsz, ok.noex, ok.exfs, ok.funs, ok.frf⟩
theorem Cx.Ok.unwish {X : Cx} {E : Value → Shared → Prop} (ok : (X.wish E).Ok) : X.Ok :=
  ⟨ok.mod, ok.kind, ok.glob, ok.blt, ok.above, ok.inj, ok.has, ok.cab, ok.hd, ok.frames, ok.stk, ok.exf, ok.bs, ok.bsz, ok.noex, ok.exfs, ok.funs, ok.frf⟩
section
variable {X : Cx} {pins : List (Addr × Obj)} {σ : St} {H : Hp} {s : Shared} {E : Value → Shared → Prop}
theorem Inv.wish (I : Inv X pins σ H s) (E : Value → Shared → Prop) : Inv (X.wish E) pins σ H s := ⟨I.ok.wish E, I.os, I.bare, I.base, I.loc, I.cell, I.free, I.freeC, I.pin, I.hok, I.len⟩
theorem Inv.unwish (I : Inv (X.wish E) pins σ H s) : Inv X pins σ H s := ⟨I.ok.unwish, I.os, I.bare, I.base, I.loc, I.cell, I.free, I.freeC, I.pin, I.hok, I.len⟩
theorem SP.unwish {D : Ends} {f : Flow} {s' : Shared} (h : SP (X.wish E) pins D f s') : SP X pins D f s' := by
  cases f with
  | next => obtain ⟨σ', H', I, q⟩ := h; exact ⟨σ', H', I.unwish, q⟩
  | brk => obtain ⟨σ', H', I, q⟩ := h; exact ⟨σ', H', I.unwish, q⟩
  | cont => obtain ⟨σ', H', I, q⟩ := h; exact ⟨σ', H', I.unwish, q⟩
  | ret u => obtain ⟨v, σ', H', I, r, q⟩ := h; exact ⟨v, σ', H', I.unwish, r, q⟩
theorem PE.nox {e : Expr} {t : TE} (h : PE X.nox e t) : PE X e t := fun pins s σ H Q I hw =>
  wpAny_mono (h pins s σ H Q (I.wish _) hw) (fun _ _ ⟨v, H', I', r, q⟩ => ⟨v, H', I'.unwish, r, q⟩) fun _ _ z => False.elim z
theorem PT.nox {e : Expr} {t : TT} (h : PT X.nox e t) : PT X e t := fun pins s σ H Q I hw =>
  wpAny_mono (h pins s σ H Q (I.wish _) hw) (fun _ _ ⟨H', I', q⟩ => ⟨H', I'.unwish, q⟩) fun _ _ z => False.elim z
theorem PSs.nox {st : List Stmt} {t : TS} (h : PSs X.nox st t) : PSs X st t := fun pins s σ H D I hw =>
  wpAny_mono (h pins s σ H D (I.wish _) hw) (fun _ _ q => q.unwish) fun _ _ z => False.elim z
end
section
variable {X : Cx} {st : Stmt} {rest : List Stmt} {t u : TS} {e : Expr} {te : TE} {pos : Pos}
def tNext : TS := fun D σ H => D.nx σ H
def tSeq (t u : TS) : TS := fun D σ H => t { D with nx := u D } σ H
theorem pss_nil : PSs X [] tNext := fun _ _ σ H _ I h => wpAny_execs_nil ⟨σ, H, I, h⟩
theorem pss_cons (h1 : PS X st t) (h2 : PSs X rest u) : PSs X (st :: rest) (tSeq t u) := by
  intro pins s σ H D I h
  refine wpAny_execs_cons (thn (h1 pins s σ H { D with nx := u D } I h) fun f s1 q => ?_)
  cases f with
  | next =>
    obtain ⟨σ', H', I', q⟩ := q
    exact h2 pins s1 σ' H' D I' q
  | ret v => exact q
  | brk => exact q
  | cont => exact q
theorem pss_one (h1 : PS X st t) : PSs X [st] t := by
  intro pins s σ H D I h
  refine wpAny_execs_cons (thn (h1 pins s σ H D I h) fun f s1 q => ?_)
  cases f with
  | next => exact wpAny_execs_nil q
  | ret v => exact q
  | brk => exact q
  | cont => exact q
theorem Inv.quiet {pins : List (Addr × Obj)} {σ : St} {H : Hp} {s : Shared} (I : Inv X pins σ H s) : interactive X.env = false := by simp [interactive, I.ok.kind]
def tDrop (te : TE) : TS := fun D σ H => te σ H fun _ H1 => D.nx σ H1
theorem ps_expr (he : PE X e te) (hs : swapsWith e none pos.line X.env = pure false := by rfl) : PS X (.Expr e pos) (tDrop te) := by
  intro pins s σ H D I h
  exact wpAny_Expr_any (thn (he pins s σ H _ I h) fun v s1 ⟨x, H1, I1, r1, q1⟩ => ⟨σ, H1, I1, q1⟩) I.quiet hs
def tRet (te : TE) : TS := fun D σ H => te σ H D.rt
theorem ps_ret (he : PE X e te) : PS X (.Return (some e) pos) (tRet te) := by
  intro pins s σ H D I h
  exact wpAny_Return_some (thn (he pins s σ H _ I h) fun v s1 ⟨x, H1, I1, r1, q1⟩ => ⟨x, σ, H1, I1, r1, q1⟩)
def tRetN : TS := fun D _ H => D.rt .non H
theorem ps_retN : PS X (.Return none pos) tRetN := fun _ _ σ H _ I h => wpAny_Return_none ⟨.non, σ, H, I, rfl, h⟩
def tIfS (c : TT) (t u : TS) : TS := fun D σ H => c σ H fun b H1 => if b = true then t D σ H1 else u D σ H1
theorem ps_if {c : Expr} {a b : List Stmt} {tc : TT} (hc : PT X c tc) (ha : PSs X a t) (hb : PSs X b u) : PS X (.If c a b pos) (tIfS tc t u) := by
  intro pins s σ H D I h
  refine wpAny_If (thn (hc pins s σ H _ I h) fun d s1 ⟨H1, I1, q1⟩ => ?_)
  cases d with
  | true => exact ha pins s1 σ H1 D I1 q1
  | false => exact hb pins s1 σ H1 D I1 q1
end
abbrev TG := V → St → Hp → (St → Hp → Prop) → Prop
abbrev TGs := List V → St → Hp → (St → Hp → Prop) → Prop
def PG (X : Cx) (target : Expr) (t : TG) : Prop :=
  ∀ (pins : List (Addr × Obj)) (s : Shared) (σ : St) (H : Hp) (v : V) (u : Value) (Q : St → Hp → Prop), Inv X pins σ H s → RelV v u → t v σ H Q →
    wpAny (model X.prog X.w) X.A (assign target X.env u) (fun _ s' => ∃ σ' H', Inv X pins σ' H' s' ∧ Q σ' H') X.xe s
def PGs (X : Cx) (ts : List Expr) (t : TGs) : Prop :=
  ∀ (pins : List (Addr × Obj)) (s : Shared) (σ : St) (H : Hp) (vs : List V) (us : List Value) (Q : St → Hp → Prop), Inv X pins σ H s → Vals vs us → t vs σ H Q →
    wpAny (model X.prog X.w) X.A (assignInOrder ((assignEach ts X.env).map (·.2)) us) (fun _ s' => ∃ σ' H', Inv X pins σ' H' s' ∧ Q σ' H') X.xe s
abbrev TSet := V → V → V → Hp → (Hp → Prop) → Prop
def PSet (X : Cx) (t : TSet) : Prop :=
  ∀ (pins : List (Addr × Obj)) (s : Shared) (σ : St) (H : Hp) (o i v : V) (ov iv u : Value) (Q : Hp → Prop), Inv X pins σ H s → RelV o ov → RelV i iv → RelV v u → t o i v H Q →
    wpAny (model X.prog X.w) X.A (setItem ov iv u) (fun _ s' => ∃ H', Inv X pins σ H' s' ∧ Q H') X.xe s
abbrev TIp := V → V → Hp → VK → Prop
def PIp (X : Cx) (op : Operator) (t : TIp) : Prop :=
  ∀ (pins : List (Addr × Obj)) (s : Shared) (σ : St) (H : Hp) (x y : V) (v u : Value) (Q : VK), Inv X pins σ H s → RelV x v → RelV y u → t x y H Q →
    wpAny (model X.prog X.w) X.A (inplaceOp op v u) (EP X pins σ Q) X.xe s
section
variable {X : Cx} {pos : Pos}
def gName (i : Nat) : TG := fun v σ H Q => Q (σ.set i (some v)) H
theorem pg_name {i : Nat} {x : Str} (hN : X.N.Nodup) (hi : X.N[i]? = some x) (hx : Loc X.env.scope x) (hf : X.fn x = true ∨ X.env.scope.names.lookup x = some .local := by first | exact .inl rfl | exact .inr rfl | assumption) : PG X (.Name x pos) (gName i) := by
  intro pins s σ H v u Q I r h
  exact wpAny_assign_Name (store_ok I hN hi hx r (fun s' I' => ⟨_, H, I', h⟩) hf)
def gNil : TGs := fun vs σ H Q => vs = [] ∧ Q σ H
def gCons (t : TG) (u : TGs) : TGs := fun vs σ H Q => ∃ v r, vs = v :: r ∧ t v σ H fun σ' H' => u r σ' H' Q
theorem pgs_nil : PGs X [] gNil := by
  intro pins s σ H vs us Q I r h
  obtain ⟨e, h⟩ := h
  subst e
  cases r
  exact assignInOrder_nil ⟨σ, H, I, h⟩
theorem pgs_cons {e : Expr} {es : List Expr} {t : TG} {u : TGs} (h1 : PG X e t) (h2 : PGs X es u)
    (hs : (assignEach (e :: es) X.env).map (·.2) = assign e X.env :: (assignEach es X.env).map (·.2) := by rfl) : PGs X (e :: es) (gCons t u) := by
  intro pins s σ H vs us Q I r h
  obtain ⟨v, vr, e1, h⟩ := h
  subst e1
  cases r with
  | cons r rr =>
    rw [hs]
    refine assignInOrder_cons (thn (h1 pins s σ H _ _ _ I r h) fun _ s1 ⟨σ1, H1, I1, q1⟩ => ?_)
    exact h2 pins s1 σ1 H1 _ _ Q I1 rr q1
def gTup (K : PySem.W.Frag) (n : Nat) (t : TGs) : TG := fun v σ H Q => ∃ a xs, v = .ref a ∧ SqT K H a xs ∧ xs.length = n ∧ t xs σ H Q
theorem pg_tup {es : List Expr} {k : Nat} {t : TGs} {n : Nat} (hc : X.calm = true) (h : PGs X es t)
    (hn : (assignEach es X.env).length = n := by rfl) (hst : (assignEach es X.env).findIdx? (·.1) = none := by rfl) : PG X (.Tuple es k pos) (gTup X.K n t) := by
  intro pins s σ H v u Q I r hw
  obtain ⟨a, xs, e1, hq, hl, hw⟩ := hw
  subst e1
  cases r
  obtain ⟨its, rv, ht, hz⟩ := I.tuple hq
  refine assign_Tuple_tuple (I.ok.hd hc) ht (by simp [hn, ← hl, rv.length]) hst fun h' hx => ?_
  have I1 : Inv X pins σ H { s with heap := h' } := I.kept (t' := s.toks) fun b o e => hx b o (Nat.ne_of_lt (Heap.lt_size e)) e
  exact h pins _ σ H xs _ Q I1 (by simpa using rv) hw
def tAsg (te : TE) (g : TG) : TS := fun D σ H => te σ H fun x H1 => g x σ H1 D.nx
theorem ps_set {i : Nat} {x : Str} {e : Expr} {te : TE} {pos' : Pos} (hN : X.N.Nodup) (hi : X.N[i]? = some x) (hx : Loc X.env.scope x) (he : PE X e te) (hs : swapsWith e (some (.Name x pos')) pos.line X.env = pure false := by rfl) (hf : X.fn x = true ∨ X.env.scope.names.lookup x = some .local := by first | exact .inl rfl | exact .inr rfl | assumption) :
    PS X (.Assign [.Name x pos'] e pos) (tAsg te (gName i)) := by
  intro pins s σ H D I h
  refine wpAny_Assign_Name (thn (he pins s σ H _ I h) fun v s1 ⟨y, H1, I1, r1, q1⟩ => ?_) hs
  exact store_ok I1 hN hi hx r1 (fun s2 I2 => ⟨_, H1, I2, q1⟩) hf
def tAugS (to ti te : TE) (tget : V → V → Hp → VK → Prop) (tip : TIp) (tset : TSet) : TS := fun D σ H => to σ H fun o H1 => ti σ H1 fun i H2 => tget o i H2 fun x H3 => te σ H3 fun y H4 => tip x y H4 fun z H5 => tset o i z H5 fun H6 => D.nx σ H6
def PGet (X : Cx) (t : V → V → Hp → VK → Prop) : Prop :=
  ∀ (pins : List (Addr × Obj)) (s : Shared) (σ : St) (H : Hp) (o i : V) (ov iv : Value) (Q : VK), Inv X pins σ H s → RelV o ov → RelV i iv → t o i H Q →
    wpAny (model X.prog X.w) X.A (getItem ov iv) (EP X pins σ Q) X.xe s
theorem ps_augS {o i e : Expr} {to ti te : TE} {tget : V → V → Hp → VK → Prop} {tip : TIp} {tset : TSet} {op : Operator} {tpos : Pos} (ho : PE X o to) (hi : PE X i ti) (hg : PGet X tget) (he : PE X e te) (hp : PIp X op tip) (hs : PSet X tset)
    (ha : ∀ ov iv new, augStore i ov iv new = (do holding [new, ov, iv] (setItem ov iv new); release [new, ov, iv] []; pure .next) := by intros; rfl) : PS X (.AugAssign (.Subscript o i tpos) op e pos) (tAugS to ti te tget tip tset) := by
  intro pins s σ H D I h
  refine wpAny_AugAssign_SubscriptAny (thn (ho pins s σ H _ I h) fun ov s1 ⟨x1, H1, I1, r1, q1⟩ => ?_) ha
  refine thn (hi pins s1 σ H1 _ I1 q1) fun iv s2 ⟨x2, H2, I2, r2, q2⟩ => ?_
  refine thn (hg pins s2 σ H2 x1 x2 ov iv _ I2 r1 r2 q2) fun old s3 ⟨x3, H3, I3, r3, q3⟩ => ?_
  refine thn (he pins s3 σ H3 _ I3 q3) fun v s4 ⟨x4, H4, I4, r4, q4⟩ => ?_
  refine thn (hp pins s4 σ H4 x3 x4 old v _ I4 r3 r4 q4) fun new s5 ⟨x5, H5, I5, r5, q5⟩ => ?_
  exact thn (hs pins s5 σ H5 x1 x2 x5 ov iv new _ I5 r1 r2 r5 q5) fun _ s6 ⟨H6, I6, q6⟩ => ⟨σ, H6, I6, q6⟩
def ipI (f : Int → Int → Int) : TIp := fun x y H Q => ∃ i j, x = .int i ∧ y = .int j ∧ Q (.int (f i j)) H
theorem ip_add : PIp X .Add (ipI fun i j => i + j) := by
  intro pins s σ H x y v u Q I r1 r2 h
  obtain ⟨i, j, e1, e2, q⟩ := h
  subst e1; subst e2
  obtain ⟨t, rfl⟩ := r1
  obtain ⟨t', rfl⟩ := r2
  exact iadd_int ⟨.int _, H, I.tok _, ⟨_, rfl⟩, q⟩
theorem ip_sub : PIp X .Sub (ipI fun i j => i - j) := by
  intro pins s σ H x y v u Q I r1 r2 h
  obtain ⟨i, j, e1, e2, q⟩ := h
  subst e1; subst e2
  obtain ⟨t, rfl⟩ := r1
  obtain ⟨t', rfl⟩ := r2
  exact isub_int ⟨.int _, H, I.tok _, ⟨_, rfl⟩, q⟩
end
section
variable {X : Cx} {pos : Pos}
def tWhile (c : TT) (tb : TS) : TS := fun D σ H => ∃ W : Nat → St → Hp → Prop, (∃ m, W m σ H) ∧ ∀ m σ H, W m σ H →
  c σ H fun b H1 => if b = true then ∃ N : St → Hp → Prop, (∀ σ' H', N σ' H' → ∃ m', m' < m ∧ W m' σ' H') ∧ tb { D with nx := N, ct := N, bk := D.nx } σ H1 else D.nx σ H1
theorem ps_while {c : Expr} {body : List Stmt} {tc : TT} {tb : TS} (hp : PassesOwn (model X.prog X.w) X.A X.env X.xe) (hc : PT X c tc) (hb : PSs X body tb) : PS X (.While c body [] pos) (tWhile tc tb) := by
  intro pins s σ H D I h
  obtain ⟨W, ⟨m0, w0⟩, turn⟩ := h
  refine wpAny_While (codeAny_whileLoop (fun n s' => ∃ σ' H', Inv X pins σ' H' s' ∧ W n σ' H') ?_ m0 ⟨σ, H, I, w0⟩)
  rintro n s1 ⟨σ1, H1, I1, w1⟩
  refine wpAny_passesOwn hp (thn (hc pins s1 σ1 H1 _ I1 (turn n σ1 H1 w1)) fun b s2 ⟨H2, I2, q2⟩ => ?_)
  cases b with
  | true =>
    obtain ⟨N, hN, q2⟩ := q2
    rw [if_pos rfl]
    refine wpAny_passesOwn hp (thn (hb pins s2 σ1 H2 _ I2 q2) fun f s3 q3 => ?_)
    cases f with
    | next =>
      obtain ⟨σ3, H3, I3, n3⟩ := q3
      obtain ⟨m', hm, w3⟩ := hN σ3 H3 n3
      exact ⟨m', hm, σ3, H3, I3, w3⟩
    | cont =>
      obtain ⟨σ3, H3, I3, n3⟩ := q3
      obtain ⟨m', hm, w3⟩ := hN σ3 H3 n3
      exact ⟨m', hm, σ3, H3, I3, w3⟩
    | brk => exact q3
    | ret v => exact q3
  | false =>
    rw [if_neg Bool.false_ne_true]
    exact wpAny_execs_nil ⟨σ1, H2, I2, q2⟩
end
structure It where
  go : Nat → Hp → Prop
  yld : Nat → Hp → V → Hp → Prop
  stop : Nat → Hp → Prop
def FpOk (X : Cx) (pins : List (Addr × Obj)) (H : Hp) (b : Addr) : Prop :=
  H b = none ∧ b ≠ X.env.locals ∧ b ∉ X.fs ∧ (b ∈ X.ex ∨ X.s_0.heap.objs.size ≤ b) ∧ (∀ x c, X.env.cells.lookup x = some c → c ≠ b) ∧ ∀ p ∈ X.pn ++ pins, p.1 ≠ b
theorem Inv.fpOk {X : Cx} {pins : List (Addr × Obj)} {σ : St} {H H' : Hp} {s : Shared} {b : Addr} (I : Inv X pins σ H s) (hb : s.heap.objs.size ≤ b) (hn : H' b = none) : FpOk X pins H' b := by
  refine ⟨hn, Nat.ne_of_gt (Nat.lt_of_lt_of_le I.lt hb), I.nofs hb, .inr (Nat.le_trans I.sz hb), fun x c e z => ?_, fun p hp z => ?_⟩
  · obtain ⟨v, q⟩ := I.cell x c e
    exact absurd (Nat.lt_of_lt_of_le q.lt (by rw [z]; exact hb)) (Nat.lt_irrefl _)
  · exact absurd (Nat.lt_of_lt_of_le (Heap.lt_size (I.pin p hp).1) (by rw [z]; exact hb)) (Nat.lt_irrefl _)
structure Turn (P : Program) (w : World) (K : PySem.W.Frag) (tg : Expr) (J : It) (fp : List Addr) (it : Addr) (tn : Nat → Heap → Prop) : Prop where
  mem : it ∈ fp
  obj : ∀ i h, tn i h → ∀ b ∈ fp, ∃ o, h.get? b = some o ∧ ∀ v, o.data ≠ .cell v
  keep : ∀ i h h', tn i h → (∀ b ∈ fp, ∀ o, h.get? b = some o → h'.get? b = some o) → tn i h'
  item : ∀ (X : Cx), X.prog = P → X.w = w → X.K = K → X.calm = true → ∀ (i : Nat) (pins : List (Addr × Obj)) (s : Shared) (σ : St) (H : Hp) (E : Value → Shared → Prop), Inv X pins σ H s → (∀ b ∈ fp, FpOk X pins H b) → tn i s.heap → J.go i H →
    wpAny (model P w) X.A (pyNext (.ref it)) (fun r s1 => ∃ u, r = some u ∧
      wpAny (model P w) X.A (letOwnedTupleGo tg (.ref it) u) (fun _ s2 => ∃ x H', Inv X pins σ H' s2 ∧ RelV x u ∧ J.yld i H x H' ∧ tn (i + 1) s2.heap ∧ ∀ b ∈ fp, H' b = none) E s1) E s
  done : ∀ (X : Cx), X.prog = P → X.w = w → X.K = K → X.calm = true → ∀ (i : Nat) (pins : List (Addr × Obj)) (s : Shared) (σ : St) (H : Hp) (E : Value → Shared → Prop), Inv X pins σ H s → (∀ b ∈ fp, FpOk X pins H b) → tn i s.heap → J.stop i H →
    wpAny (model P w) X.A (pyNext (.ref it)) (fun r s1 => r = none ∧ Inv X pins σ H s1) E s
  self : ∀ (A : Around) (i : Nat) (s : Shared) (Q : Value → Shared → Prop) (E : Value → Shared → Prop), tn i s.heap → Q (.ref it) s → wpAny (model P w) A (pyIter (.ref it)) Q E s
abbrev TI := St → Hp → (It → Hp → Prop) → Prop
def PIE (X : Cx) (pins : List (Addr × Obj)) (σ : St) (tg : Expr) (R : It → Hp → Prop) (itv : Value) (s2 : Shared) : Prop :=
  ∃ (it : Addr) (fp : List Addr) (tn : Nat → Heap → Prop) (J : It) (H' : Hp), itv = .ref it ∧ Inv X pins σ H' s2 ∧ Turn X.prog X.w X.K tg J fp it tn ∧ tn 0 s2.heap ∧ (∀ b ∈ fp, FpOk X pins H' b) ∧ R J H'
def PI (X : Cx) (tg iter : Expr) (wi : TI) : Prop :=
  ∀ (pins : List (Addr × Obj)) (s : Shared) (σ : St) (H : Hp) (R : It → Hp → Prop), Inv X pins σ H s → wi σ H R →
    wpAny (model X.prog X.w) X.A (eval iter X.env) (fun v s1 => wpAny (model X.prog X.w) X.A (pyIter v) (PIE X pins σ tg R) X.xe s1) X.xe s
theorem go_of {M : Model} {A : Around} {E : Value → Shared → Prop} {s : Shared} {tg : Expr} {it : Addr} {u : Value} {o : Obj} {n : String} {vs : Array Value} {Q : Unit → Shared → Prop} (ho : s.heap.get? it = some o) (hc : o.cls = .type n) (hd : o.data = .fields vs)
    (hn : ["enumerate", "zip", "dict_itemiterator", "dict_reverseitemiterator", "odict_iterator", "itertools.zip_longest", "itertools.pairwise"].contains n = false) (hQ : Q () s) : wpAny M A (letOwnedTupleGo tg (.ref it) u) Q E s := by
  unfold letOwnedTupleGo
  cases tg <;> first
    | exact wpAny_pure hQ
    | (cases u <;> first
        | exact wpAny_pure hQ
        | (refine wpAny_bind (wpAny_load ho ?_)
           rw [hc, hd]
           show wpAny M A (if (["enumerate", "zip", "dict_itemiterator", "dict_reverseitemiterator", "odict_iterator", "itertools.zip_longest", "itertools.pairwise"].contains n && vs[0]? == some (rawInt _)) = true then _ else _) Q E s
           rw [if_neg (by intro h; rw [hn, Bool.false_and] at h; cases h)]
           exact wpAny_pure hQ))
def Itl (K : PySem.W.Frag) (a : Addr) : It :=
  ⟨fun i H => ∃ xs x, SqL K H a xs ∧ xs[i]? = some x, fun i H x H' => H' = H ∧ ∀ xs, SqL K H a xs → xs[i]? = some x, fun i H => ∃ xs, SqL K H a xs ∧ xs.length ≤ i⟩
def Itt (K : PySem.W.Frag) (a : Addr) : It :=
  ⟨fun i H => ∃ xs x, SqT K H a xs ∧ xs[i]? = some x, fun i H x H' => H' = H ∧ ∀ xs, SqT K H a xs → xs[i]? = some x, fun i H => ∃ xs, SqT K H a xs ∧ xs.length ≤ i⟩
def Itr (lo : Int) (n : Nat) : It := ⟨fun i _ => i < n, fun i H x H' => H' = H ∧ x = .int (lo + i), fun i _ => n ≤ i⟩
theorem turn_list {P : Program} {w : World} {K : PySem.W.Frag} {tg : Expr} (a it : Addr) : Turn P w K tg (Itl K a) [it] it (fun i h => h.IsListIter it a i) where
  mem := by simp
  obj := fun i h st b hb => by
    have e : b = it := by simpa using hb
    subst e
    obtain ⟨o, e, c, d⟩ := st
    exact ⟨o, e, fun v z => by rw [d] at z; cases z⟩
  keep := fun i h h' st k => st.at fun o e => k it (by simp) o e
  item := by
    intro X hP hw hK hc i pins s σ H E I hf st hg
    subst hP hw hK
    obtain ⟨xs, x, hq, hx⟩ := hg
    obtain ⟨its, rv, p, hz⟩ := I.list hq
    obtain ⟨u, hu, ru⟩ := rv.get hx
    obtain ⟨f0, f1, f2, f3, f4, f5⟩ := hf it (by simp)
    refine wpAny_pyNext_list_item st p.isList (x := u) (by simpa using hu) fun h' st' sb => ?_
    have I1 : Inv X pins σ H { s with heap := h' } := I.turned (t' := s.toks) (fun b o hb e => (sb.2 b hb).trans e) f0 f1 f3 f4 f5
    obtain ⟨o, e, c, d⟩ := id st'
    exact ⟨u, rfl, go_of (s := { s with heap := h' }) e c d (by decide) ⟨x, H, I1, ru, ⟨rfl, fun ys hy => by rw [I.list_inj hy hq]; exact hx⟩, st', fun b hb => (hf b hb).1⟩⟩
  done := by
    intro X hP hw hK hc i pins s σ H E I hf st hg
    subst hP hw hK
    obtain ⟨xs, hq, hx⟩ := hg
    obtain ⟨its, rv, p, hz⟩ := I.list hq
    obtain ⟨f0, f1, f2, f3, f4, f5⟩ := hf it (by simp)
    have hl := rv.length
    exact wpAny_pyNext_list_end (I.ok.hd hc) st p.isList (by simp; omega) fun h' eb => ⟨rfl, I.turned (t' := s.toks) (fun b o hb e => eb b o hb e) f0 f1 f3 f4 f5⟩
  self := fun _ _ _ _ _ st h => wpAny_pyIter_listiter st h
theorem turn_range {P : Program} {w : World} {K : PySem.W.Frag} {tg : Expr} (it : Addr) (lo : Int) (n : Nat) : Turn P w K tg (Itr lo n) [it] it (fun i h => IsRangeIter h it (lo + (i : Nat) * 1) ((n : Int) - (i : Nat)) 1) where
  mem := by simp
  obj := fun i h st b hb => by
    have e : b = it := by simpa using hb
    subst e
    exact ⟨_, st, fun v z => by
      have z' : Data.fields _ = Data.cell v := z
      cases z'⟩
  keep := fun i h h' st k => k it (by simp) _ st
  item := by
    intro X hP hw hK hc i pins s σ H E I hf st hg
    subst hP hw hK
    obtain ⟨f0, f1, f2, f3, f4, f5⟩ := hf it (by simp)
    have W := Walks.range (prog := X.prog) (w := X.w) (I.ok.hd hc) it lo 1 n
    refine W.item i s _ _ hg st fun v h' tk hv st' kk => ?_
    obtain ⟨t, rfl⟩ := hv
    have I1 : Inv X pins σ H { s with heap := h', toks := tk } := I.turned (fun b o hb e => kk b o (by simpa using hb) e) f0 f1 f3 f4 f5
    refine ⟨_, rfl, go_of (s := { s with heap := h', toks := tk }) (n := "range_iterator") st' rfl rfl (by decide) ⟨.int (lo + i), H, I1, ⟨t, ?_⟩, ⟨rfl, rfl⟩, st', fun b hb => (hf b hb).1⟩⟩
    rw [Int.mul_one]
  done := by
    intro X hP hw hK hc i pins s σ H E I hf st hg
    subst hP hw hK
    obtain ⟨f0, f1, f2, f3, f4, f5⟩ := hf it (by simp)
    exact wpAny_pyNext_range_end (I.ok.hd hc) st (by have : n ≤ i := hg; omega) fun h' eb => ⟨rfl, I.turned (t' := s.toks) (fun b o hb e => eb b o hb e) f0 f1 f3 f4 f5⟩
  self := fun _ _ _ _ _ st h => wpAny_pyIter_rangeiter st h
end L2
namespace L2
open PySem PySem.Spec PyProof.Rows
section
variable {X : Cx} {tg : Expr}
def iList (K : PySem.W.Frag) (tl : TE) : TI := fun σ H R => tl σ H fun x H1 => ∃ a, x = .ref a ∧ (∃ xs, SqL K H1 a xs) ∧ R (Itl K a) H1
theorem pi_list {l : Expr} {tl : TE} (hl : PE X l tl) : PI X tg l (iList X.K tl) := by
  intro pins s σ H R I h
  refine thn (hl pins s σ H _ I h) fun v s1 ⟨x, H1, I1, r1, q1⟩ => ?_
  obtain ⟨a, e, ⟨xs, hq⟩, q⟩ := q1
  subst e
  cases r1
  obtain ⟨its, rv, p, hz⟩ := I1.list hq
  refine wpAny_pyIter_list p.isList ?_
  refine ⟨s1.heap.objs.size, [s1.heap.objs.size], _, _, H1, rfl, I1.kept (t' := s1.toks) fun b o e => Heap.get?_push_of_some _ e, turn_list a _, ⟨_, Heap.get?_push_size _ rfl, rfl, rfl⟩, fun b hb => ?_, q⟩
  have e : b = s1.heap.objs.size := by simpa using hb
  subst e
  exact I1.fpOk (Nat.le_refl _) (I1.hok.fresh (Nat.le_refl _))
theorem range_it {pins : List (Addr × Obj)} {σ : St} {H : Hp} {s : Shared} {R : It → Hp → Prop} {E : Value → Shared → Prop} {lo hi : Int} {t u v : Tok} {tk : Nat} (I : Inv X pins σ H s) (h1 : -(2 ^ 62) ≤ lo) (h2 : lo < 2 ^ 62) (h3 : -(2 ^ 62) ≤ hi) (h4 : hi < 2 ^ 62)
    (q : R (Itr lo (hi - lo).toNat) H) : wpAny (model X.prog X.w) X.A (pyIter (.ref s.heap.objs.size)) (PIE X pins σ tg R) E { s with heap := s.heap.push { cls := .type "range", data := .fields #[.int lo t, .int hi u, .int 1 v] }, toks := tk } := by
  refine wpAny_pyIter_range (IsRange.new ..) (small_one h1 h2 h3 h4) ?_
  have I1 : Inv X pins σ H { s with heap := s.heap.push { cls := .type "range", data := .fields #[.int lo t, .int hi u, .int 1 v] }, toks := tk } := I.kept fun b o e => Heap.get?_push_of_some _ e
  refine ⟨(s.heap.push { cls := .type "range", data := .fields #[.int lo t, .int hi u, .int 1 v] }).objs.size, [(s.heap.push { cls := .type "range", data := .fields #[.int lo t, .int hi u, .int 1 v] }).objs.size], _, _, H, rfl,
    I1.kept (t' := tk) fun b o e => Heap.get?_push_of_some _ e, turn_range _ lo (hi - lo).toNat, ?_, fun b hb => ?_, q⟩
  · have e1 : lo + ((0 : Nat) : Int) * 1 = lo := by simp
    have e2 : (((hi - lo).toNat : Nat) : Int) - ((0 : Nat) : Int) = Builtin.Range.rangeSize lo hi 1 := by rw [rangeSize_one]; split <;> omega
    show IsRangeIter _ _ (lo + ((0 : Nat) : Int) * 1) ((((hi - lo).toNat : Nat) : Int) - ((0 : Nat) : Int)) 1
    rw [e1, e2]
    exact Heap.get?_push_size _ rfl
  · have e : b = (s.heap.push { cls := .type "range", data := .fields #[.int lo t, .int hi u, .int 1 v] }).objs.size := by simpa using hb
    subst e
    exact I1.fpOk (Nat.le_refl _) (I1.hok.fresh (Nat.le_refl _))
def iRng1 (ta : TA) : TI := fun σ H R => ta σ H fun vs H1 => ∃ j : Int, vs = [.int j] ∧ -(2 ^ 62) ≤ j ∧ j < 2 ^ 62 ∧ R (Itr 0 j.toNat) H1
theorem pi_range1 {a : Expr} {ta : TA} {p pos : Pos} (hg : Gl X "range") (hm : X.mg "range" = none) (ha : PA X [a] ta) (hs : starEach [a] X.env = [(false, eval a X.env)] := by rfl) : PI X tg (.Call (.Name "range" p) [a] [] pos) (iRng1 ta) := by
  intro pins s σ H R I h
  refine Call_ (ld_blt I hg hm boot_range (PyProof.Rows.callWith_type1 (thn (ha pos pins s σ H _ I h) fun us s1 ⟨vs, H1, I1, r1, q1⟩ => ?_) hs rfl))
  obtain ⟨j, e, q1, q2, q⟩ := q1
  subst e
  cases r1 with
  | cons r rr =>
    cases rr
    obtain ⟨t, rfl⟩ := r
    exact call_range_1 (range_it I1 (by omega) (by omega) q1 q2 (by simpa using q))
def tFor (wi : TI) (g : TG) (tb : TS) : TS := fun D σ H => wi σ H fun J H1 => ∃ W : Nat → Nat → St → Hp → Prop, (∃ m, W 0 m σ H1) ∧ ∀ i m σ H, W i m σ H →
  (J.stop i H ∧ D.nx σ H) ∨ (J.go i H ∧ ∃ N : St → Hp → Prop, (∀ σ' H', N σ' H' → ∃ m', m' < m ∧ W (i + 1) m' σ' H') ∧ ∀ x H', J.yld i H x H' → g x σ H' fun σ2 H2 => tb { D with nx := N, ct := N, bk := D.nx } σ2 H2)
def pinsAt (fp : List Addr) (h : Heap) : List (Addr × Obj) := fp.filterMap fun b => (h.get? b).map fun o => (b, o)
theorem mem_pinsAt {fp : List Addr} {h : Heap} {b : Addr} {o : Obj} (hb : b ∈ fp) (e : h.get? b = some o) : (b, o) ∈ pinsAt fp h := List.mem_filterMap.mpr ⟨b, hb, by rw [e]; rfl⟩
theorem of_pinsAt {fp : List Addr} {h : Heap} {p : Addr × Obj} (hp : p ∈ pinsAt fp h) : p.1 ∈ fp ∧ h.get? p.1 = some p.2 := by
  obtain ⟨b, hb, e⟩ := List.mem_filterMap.mp hp
  cases q : h.get? b with
  | none => rw [q] at e; cases e
  | some o =>
    rw [q] at e
    have e' : (b, o) = p := Option.some.inj e
    subst e'
    exact ⟨hb, q⟩
theorem Inv.pinned {pins : List (Addr × Obj)} {σ : St} {H : Hp} {s : Shared} {fp : List Addr} (I : Inv X pins σ H s) (hf : ∀ b ∈ fp, FpOk X pins H b) (ho : ∀ b ∈ fp, ∃ o, s.heap.get? b = some o ∧ ∀ v, o.data ≠ .cell v) : Inv X (pins ++ pinsAt fp s.heap) σ H s :=
  I.pins_of fun p hp => (List.mem_append.mp hp).elim (fun z => I.pin p (List.mem_append_right _ z)) fun z => by
    obtain ⟨hb, e⟩ := of_pinsAt z
    obtain ⟨f0, f1, f2, _⟩ := hf p.1 hb
    obtain ⟨o, e', d⟩ := ho p.1 hb
    rw [e] at e'; cases e'
    exact ⟨e, f0, f1, f2, d⟩
theorem Inv.unpinned {pins pl : List (Addr × Obj)} {σ : St} {H : Hp} {s : Shared} (I : Inv X (pins ++ pl) σ H s) : Inv X pins σ H s := I.pins_of fun p hp => I.pin p (List.mem_append_right _ (List.mem_append_left _ hp))
theorem ps_for {iter : Expr} {body : List Stmt} {wi : TI} {g : TG} {tb : TS} {pos : Pos} (hp : PassesOwn (model X.prog X.w) X.A X.env X.xe) (hc : X.calm = true) (hi : PI X tg iter wi) (hg : PG X tg g) (hb : PSs X body tb)
    (hs : ∀ x, foldedSetIterable iter X.env x = pure x := by intro _; rfl) : PS X (.For tg iter body [] pos) (tFor wi g tb) := by
  intro pins s σ H D I h
  refine wpAny_For (thn (hi pins s σ H _ I h) fun v s1 h1 => thn h1 fun itv s2 h2 => ?_) hs
  obtain ⟨it, fp, tn, J, H2, e, I2, T, st2, f2, W, ⟨m0, w0⟩, turn⟩ := h2
  subst e
  have stat : ∀ {H' : Hp}, (∀ b ∈ fp, H' b = none) → ∀ b ∈ fp, FpOk X pins H' b := fun hn b hb => ⟨hn b hb, (f2 b hb).2⟩
  refine codeAny_forLoop_any (fun n s' => ∃ i σ' H', Inv X pins σ' H' s' ∧ tn i s'.heap ∧ (∀ b ∈ fp, H' b = none) ∧ W i n σ' H') ?_ m0 ⟨0, σ, H2, I2, st2, fun b hb => (f2 b hb).1, w0⟩
  rintro n s3 ⟨i, σ3, H3, I3, st3, fr3, w3⟩
  rcases turn i n σ3 H3 w3 with ⟨stop, qn⟩ | ⟨go, N, hN, step⟩
  · refine wpAny_passesOwn hp (thn (T.done X rfl rfl rfl hc i pins s3 σ3 H3 X.xe I3 (stat fr3) st3 stop) fun r s4 ⟨hr, I4⟩ => ?_)
    subst hr
    exact wpAny_execs_nil ⟨σ3, H3, I4, qn⟩
  · refine wpAny_passesOwn hp (thn (T.item X rfl rfl rfl hc i pins s3 σ3 H3 X.xe I3 (stat fr3) st3 go) fun r s4 ⟨u, hr, h4⟩ => ?_)
    subst hr
    refine wpAny_passesOwn hp (thn h4 fun _ s5 ⟨x, H5, I5, r5, y5, st5, fr5⟩ => ?_)
    have I5' := I5.pinned (stat fr5) (T.obj _ _ st5)
    refine wpAny_passesOwn hp (thn (hg _ s5 σ3 H5 x u _ I5' r5 (step x H5 y5)) fun _ s6 ⟨σ6, H6, I6, q6⟩ => ?_)
    refine wpAny_passesOwn hp (thn (hb _ s6 σ6 H6 _ I6 q6) fun f s7 q7 => ?_)
    have again : ∀ {σ7 : St} {H7 : Hp}, Inv X (pins ++ pinsAt fp s5.heap) σ7 H7 s7 → N σ7 H7 → ∃ m, m < n ∧ ∃ i σ' H', Inv X pins σ' H' s7 ∧ tn i s7.heap ∧ (∀ b ∈ fp, H' b = none) ∧ W i m σ' H' := fun {σ7 H7} I7 n7 => by
      obtain ⟨m', hm, w7⟩ := hN σ7 H7 n7
      refine ⟨m', hm, i + 1, σ7, H7, I7.unpinned, T.keep _ _ _ st5 fun b hb o e => (I7.pin (b, o) (List.mem_append_right _ (List.mem_append_right _ (mem_pinsAt hb e)))).1, fun b hb => ?_, w7⟩
      obtain ⟨o, e, d⟩ := T.obj _ _ st5 b hb
      exact (I7.pin (b, o) (List.mem_append_right _ (List.mem_append_right _ (mem_pinsAt hb e)))).2.1
    cases f with
    | next => obtain ⟨σ7, H7, I7, n7⟩ := q7; exact again I7 n7
    | cont => obtain ⟨σ7, H7, I7, n7⟩ := q7; exact again I7 n7
    | brk => obtain ⟨σ7, H7, I7, q7⟩ := q7; exact ⟨σ7, H7, I7.unpinned, q7⟩
    | ret v => obtain ⟨x7, σ7, H7, I7, r7, q7⟩ := q7; exact ⟨x7, σ7, H7, I7.unpinned, r7, q7⟩
end
theorem for_list {K : PySem.W.Frag} {a : Addr} {xs : List V} {g : TG} {tb : TS} {D : Ends} {σ : St} {H : Hp} (Pv : Nat → St → Hp → Prop) (h0 : Pv 0 σ H) (hl : ∀ i σ H, i ≤ xs.length → Pv i σ H → SqL K H a xs)
    (hs : ∀ i x σ H, xs[i]? = some x → Pv i σ H → g x σ H fun σ2 H2 => tb { D with nx := Pv (i + 1), ct := Pv (i + 1), bk := D.nx } σ2 H2) (hd : ∀ σ H, Pv xs.length σ H → D.nx σ H) :
    ∃ W : Nat → Nat → St → Hp → Prop, (∃ m, W 0 m σ H) ∧ ∀ i m σ H, W i m σ H →
      ((Itl K a).stop i H ∧ D.nx σ H) ∨ ((Itl K a).go i H ∧ ∃ N : St → Hp → Prop, (∀ σ' H', N σ' H' → ∃ m', m' < m ∧ W (i + 1) m' σ' H') ∧ ∀ x H', (Itl K a).yld i H x H' → g x σ H' fun σ2 H2 => tb { D with nx := N, ct := N, bk := D.nx } σ2 H2) := by
  refine ⟨fun i m σ H => m = xs.length - i ∧ i ≤ xs.length ∧ Pv i σ H, ⟨xs.length, by simp, Nat.zero_le _, h0⟩, ?_⟩
  rintro i m σ H ⟨rfl, hi, p⟩
  have q := hl i σ H hi p
  by_cases hlt : i < xs.length
  · refine .inr ⟨⟨xs, xs[i], q, by simp [hlt]⟩, Pv (i + 1), fun σ' H' p' => ⟨xs.length - (i + 1), by omega, rfl, hlt, p'⟩, fun x H' y => ?_⟩
    obtain ⟨e, y⟩ := y
    subst e
    exact hs i x σ _ (y xs q) p
  · have e : i = xs.length := by omega
    subst e
    exact .inl ⟨⟨xs, q, Nat.le_refl _⟩, hd σ H p⟩
theorem for_tup {K : PySem.W.Frag} {a : Addr} {xs : List V} {g : TG} {tb : TS} {D : Ends} {σ : St} {H : Hp} (Pv : Nat → St → Hp → Prop) (h0 : Pv 0 σ H) (hl : ∀ i σ H, i ≤ xs.length → Pv i σ H → SqT K H a xs)
    (hs : ∀ i x σ H, xs[i]? = some x → Pv i σ H → g x σ H fun σ2 H2 => tb { D with nx := Pv (i + 1), ct := Pv (i + 1), bk := D.nx } σ2 H2) (hd : ∀ σ H, Pv xs.length σ H → D.nx σ H) :
    ∃ W : Nat → Nat → St → Hp → Prop, (∃ m, W 0 m σ H) ∧ ∀ i m σ H, W i m σ H →
      ((Itt K a).stop i H ∧ D.nx σ H) ∨ ((Itt K a).go i H ∧ ∃ N : St → Hp → Prop, (∀ σ' H', N σ' H' → ∃ m', m' < m ∧ W (i + 1) m' σ' H') ∧ ∀ x H', (Itt K a).yld i H x H' → g x σ H' fun σ2 H2 => tb { D with nx := N, ct := N, bk := D.nx } σ2 H2) := by
  refine ⟨fun i m σ H => m = xs.length - i ∧ i ≤ xs.length ∧ Pv i σ H, ⟨xs.length, by simp, Nat.zero_le _, h0⟩, ?_⟩
  rintro i m σ H ⟨rfl, hi, p⟩
  have q := hl i σ H hi p
  by_cases hlt : i < xs.length
  · refine .inr ⟨⟨xs, xs[i], q, by simp [hlt]⟩, Pv (i + 1), fun σ' H' p' => ⟨xs.length - (i + 1), by omega, rfl, hlt, p'⟩, fun x H' y => ?_⟩
    obtain ⟨e, y⟩ := y
    subst e
    exact hs i x σ _ (y xs q) p
  · have e : i = xs.length := by omega
    subst e
    exact .inl ⟨⟨xs, q, Nat.le_refl _⟩, hd σ H p⟩
theorem for_range {lo : Int} {n : Nat} {g : TG} {tb : TS} {D : Ends} {σ : St} {H : Hp} (Pv : Nat → St → Hp → Prop) (h0 : Pv 0 σ H)
    (hs : ∀ i σ H, i < n → Pv i σ H → g (.int (lo + i)) σ H fun σ2 H2 => tb { D with nx := Pv (i + 1), ct := Pv (i + 1), bk := D.nx } σ2 H2) (hd : ∀ σ H, Pv n σ H → D.nx σ H) :
    ∃ W : Nat → Nat → St → Hp → Prop, (∃ m, W 0 m σ H) ∧ ∀ i m σ H, W i m σ H →
      ((Itr lo n).stop i H ∧ D.nx σ H) ∨ ((Itr lo n).go i H ∧ ∃ N : St → Hp → Prop, (∀ σ' H', N σ' H' → ∃ m', m' < m ∧ W (i + 1) m' σ' H') ∧ ∀ x H', (Itr lo n).yld i H x H' → g x σ H' fun σ2 H2 => tb { D with nx := N, ct := N, bk := D.nx } σ2 H2) := by
  refine ⟨fun i m σ H => m = n - i ∧ i ≤ n ∧ Pv i σ H, ⟨n, by simp, Nat.zero_le _, h0⟩, ?_⟩
  rintro i m σ H ⟨rfl, hi, p⟩
  by_cases hlt : i < n
  · refine .inr ⟨hlt, Pv (i + 1), fun σ' H' p' => ⟨n - (i + 1), by omega, rfl, hlt, p'⟩, fun x H' y => ?_⟩
    obtain ⟨e, y⟩ := y
    subst e y
    exact hs i σ _ hlt p
  · have e : i = n := by omega
    subst e
    exact .inl ⟨Nat.le_refl _, hd σ H p⟩
theorem while_by {c : TT} {tb : TS} {D : Ends} {σ : St} {H : Hp} (Pv : St → Hp → Prop) (μ : St → Hp → Nat) (h0 : Pv σ H)
    (hs : ∀ σ H, Pv σ H → c σ H fun b H1 => if b = true then tb { D with nx := fun σ' H' => Pv σ' H' ∧ μ σ' H' < μ σ H, ct := fun σ' H' => Pv σ' H' ∧ μ σ' H' < μ σ H, bk := D.nx } σ H1 else D.nx σ H1)
    (mono : ∀ σ H Q Q', (∀ b H1, Q b H1 → Q' b H1) → c σ H Q → c σ H Q') : tWhile c tb D σ H := by
  refine ⟨fun m σ H => m = μ σ H ∧ Pv σ H, ⟨_, rfl, h0⟩, ?_⟩
  rintro m σ H ⟨rfl, p⟩
  refine mono σ H _ _ (fun b H1 q => ?_) (hs σ H p)
  cases b with
  | true => exact ⟨_, fun σ' H' ⟨p', l⟩ => ⟨_, l, rfl, p'⟩, q⟩
  | false => exact q
end L2
namespace L2
open PySem PySem.Spec PyProof.Rows
abbrev R2 := V → V → Hp → VK → Prop
def OpR (X : Cx) (f : Value → Value → Sem Value) (r : R2) : Prop :=
  ∀ (pins : List (Addr × Obj)) (s : Shared) (σ : St) (H : Hp) (x y : V) (v u : Value) (Q : VK), Inv X pins σ H s → RelV x v → RelV y u → r x y H Q →
    wpAny (model X.prog X.w) X.A (f v u) (EP X pins σ Q) X.xe s
def UnR (X : Cx) (f : Value → Sem Value) (r : V → Hp → VK → Prop) : Prop :=
  ∀ (pins : List (Addr × Obj)) (s : Shared) (σ : St) (H : Hp) (x : V) (v : Value) (Q : VK), Inv X pins σ H s → RelV x v → r x H Q →
    wpAny (model X.prog X.w) X.A (f v) (EP X pins σ Q) X.xe s
def CallR (X : Cx) (f : Value) (r : List V → Hp → VK → Prop) : Prop :=
  ∀ (pins : List (Addr × Obj)) (s : Shared) (σ : St) (H : Hp) (xs : List V) (us : List Value) (Q : VK), Inv X pins σ H s → Vals xs us → r xs H Q →
    wpAny (model X.prog X.w) X.A (call f us) (EP X pins σ Q) X.xe s
def tOp (r : R2) (ta tb : TE) : TE := fun σ H Q => ta σ H fun x H1 => tb σ H1 fun y H2 => r x y H2 Q
def tUn (r : V → Hp → VK → Prop) (ta : TE) : TE := fun σ H Q => ta σ H fun x H1 => r x H1 Q
def rI (C : Int → Int → Prop) (g : Int → Int → V) : R2 := fun x y H Q => ∃ i j, x = .int i ∧ y = .int j ∧ C i j ∧ Q (g i j) H
def rI0 (g : Int → Int → V) : R2 := fun x y H Q => ∃ i j, x = .int i ∧ y = .int j ∧ Q (g i j) H
def rU (g : Int → V) : V → Hp → VK → Prop := fun x H Q => ∃ i, x = .int i ∧ Q (g i) H
section
variable {X : Cx} {a b c : Expr} {ta tb tc : TE} {pos : Pos}
theorem binT (ha : PE X a ta) (hb : PE X b tb) {pins : List (Addr × Obj)} {s : Shared} {σ : St} {H : Hp} {R : V → V → Hp → Prop} (I : Inv X pins σ H s)
    (h : ta σ H fun x H1 => tb σ H1 fun y H2 => R x y H2) {Q : Value → Shared → Prop} {f : Value → Value → Sem Value}
    (hf : ∀ v u s2 x y H2, Inv X pins σ H2 s2 → RelV x v → RelV y u → R x y H2 → wpAny (model X.prog X.w) X.A (f v u) Q X.xe s2) :
    wpAny (model X.prog X.w) X.A (eval a X.env) (fun v s₁ => wpAny (model X.prog X.w) X.A (eval b X.env) (fun u s₂ => wpAny (model X.prog X.w) X.A (f v u) Q X.xe s₂) X.xe s₁) X.xe s := by
  refine thn (ha pins s σ H _ I h) fun v s1 ⟨x, H1, I1, r1, q1⟩ => ?_
  refine thn (hb pins s1 σ H1 _ I1 q1) fun u s2 ⟨y, H2, I2, r2, q2⟩ => ?_
  exact hf v u s2 x y H2 I2 r1 r2 q2
theorem pe_op {op : Operator} {r : R2} (ho : OpR X (binaryOp op) r) (ha : PE X a ta) (hb : PE X b tb) : PE X (.BinOp a op b pos) (tOp r ta tb) := by
  intro pins s σ H Q I h
  exact wpAny_BinOp (binT ha hb I h fun v u s2 x y H2 I2 rx ry q => ho pins s2 σ H2 x y v u Q I2 rx ry q)
theorem pe_un {op : UnaryOp} {r : V → Hp → VK → Prop} (ho : UnR X (unaryOp op) r) (ha : PE X a ta) : PE X (.UnaryOp op a pos) (tUn r ta) := by
  intro pins s σ H Q I h
  exact UnaryOp_ (thn (ha pins s σ H _ I h) fun v s1 ⟨x, H1, I1, r1, q1⟩ => ho pins s1 σ H1 x v Q I1 r1 q1)
theorem opI {f : Value → Value → Sem Value} {C : Int → Int → Prop} {g : Int → Int → Int}
    (rule : ∀ (i j : Int) (t u : Tok) (s : Shared) (Q : Value → Shared → Prop) (E : Value → Shared → Prop), C i j → Q (.int (g i j) s.toks) { s with toks := s.toks + 1 } → wpAny (model X.prog X.w) X.A (f (.int i t) (.int j u)) Q E s) :
    OpR X f (rI C fun i j => .int (g i j)) := by
  intro pins s σ H x y v u Q I rx ry h
  obtain ⟨i, j, rfl, rfl, hc, q⟩ := h
  obtain ⟨t, rfl⟩ := rx
  obtain ⟨t', rfl⟩ := ry
  exact rule i j t t' s _ _ hc ⟨.int (g i j), H, I.tok _, ⟨_, rfl⟩, q⟩
theorem opI0 {f : Value → Value → Sem Value} {g : Int → Int → Int}
    (rule : ∀ (i j : Int) (t u : Tok) (s : Shared) (Q : Value → Shared → Prop) (E : Value → Shared → Prop), Q (.int (g i j) s.toks) { s with toks := s.toks + 1 } → wpAny (model X.prog X.w) X.A (f (.int i t) (.int j u)) Q E s) :
    OpR X f (rI0 fun i j => .int (g i j)) := by
  intro pins s σ H x y v u Q I rx ry h
  obtain ⟨i, j, rfl, rfl, q⟩ := h
  obtain ⟨t, rfl⟩ := rx
  obtain ⟨t', rfl⟩ := ry
  exact rule i j t t' s _ _ ⟨.int (g i j), H, I.tok _, ⟨_, rfl⟩, q⟩
theorem opB0 {f : Value → Value → Sem Value} {g : Int → Int → Bool}
    (rule : ∀ (i j : Int) (t u : Tok) (s : Shared) (Q : Value → Shared → Prop) (E : Value → Shared → Prop), Q (.bool (g i j)) s → wpAny (model X.prog X.w) X.A (f (.int i t) (.int j u)) Q E s) :
    OpR X f (rI0 fun i j => .bl (g i j)) := by
  intro pins s σ H x y v u Q I rx ry h
  obtain ⟨i, j, rfl, rfl, q⟩ := h
  obtain ⟨t, rfl⟩ := rx
  obtain ⟨t', rfl⟩ := ry
  exact rule i j t t' s _ _ ⟨.bl (g i j), H, I, rfl, q⟩
def CDiv (i j : Int) : Prop := 0 < j ∧ j < 1073741824
def CMul (i j : Int) : Prop := (-(2 ^ 64) < i ∧ i < 2 ^ 64) ∨ (-(2 ^ 64) < j ∧ j < 2 ^ 64)
theorem CMul.ok {i j : Int} (h : CMul i j) : IntMulOk i j := by
  rcases h with ⟨h1, h2⟩ | ⟨h1, h2⟩
  · exact .of_left (intBits_le_64 h1 h2)
  · exact .of_right (intBits_le_64 h1 h2)
theorem op_add : OpR X (binaryOp .Add) (rI0 fun i j => .int (i + j)) := opI0 fun _ _ _ _ _ _ _ q => add_int q
theorem op_sub : OpR X (binaryOp .Sub) (rI0 fun i j => .int (i - j)) := opI0 fun _ _ _ _ _ _ _ q => sub_int q
theorem op_mul : OpR X (binaryOp .Mult) (rI CMul fun i j => .int (i * j)) := opI fun _ _ _ _ _ _ _ hc q => mul_int q hc.ok
theorem op_fdiv : OpR X (binaryOp .FloorDiv) (rI CDiv fun i j => .int (i / j)) := opI fun i j _ _ _ _ _ hc q => by
  have h1 : (0 : Int) < j := hc.1
  have h2 : j < 1073741824 := hc.2
  exact floordiv_int (by omega) (by rw [Int.fdiv_eq_ediv_of_nonneg i (by omega)]; exact q) (.inl (PyProof.noPylong_small (by omega)))
theorem op_mod : OpR X (binaryOp .Mod) (rI (fun _ j => 0 < j) fun i j => .int (i % j)) := opI fun i j _ _ _ _ _ hc q => by
  have h1 : (0 : Int) < j := hc
  exact mod_int' (by omega) (by rw [Int.fmod_eq_emod_of_nonneg i (by omega)]; exact q)
theorem op_and : OpR X (binaryOp .BitAnd) (rI0 fun i j => .int (Builtin.bitAnd i j)) := opI0 fun _ _ _ _ _ _ _ q => and_int q
theorem unI {f : Value → Sem Value} {g : Int → Int}
    (rule : ∀ (i : Int) (t : Tok) (s : Shared) (Q : Value → Shared → Prop) (E : Value → Shared → Prop), Q (.int (g i) s.toks) { s with toks := s.toks + 1 } → wpAny (model X.prog X.w) X.A (f (.int i t)) Q E s) :
    UnR X f (rU fun i => .int (g i)) := by
  intro pins s σ H x v Q I rx h
  obtain ⟨i, rfl, q⟩ := h
  obtain ⟨t, rfl⟩ := rx
  exact rule i t s _ _ ⟨.int (g i), H, I.tok _, ⟨_, rfl⟩, q⟩
theorem un_neg : UnR X (unaryOp .USub) (rU fun i => .int (-i)) := unI fun _ _ _ _ _ q => neg_int q
end
def scal : V → V → Bool
  | .non, .non => true | .non, .int _ => true | .int _, .non => true | .non, .bl _ => true | .bl _, .non => true | .non, .str _ => true | .str _, .non => true
  | .int _, .int _ => true | .bl _, .bl _ => true | .str _, .str _ => true | .byt _, .byt _ => true
  | .int _, .str _ => true | .str _, .int _ => true | .bl _, .str _ => true | .str _, .bl _ => true
  | _, _ => false
def rEq : R2 := fun x y H Q => scal x y = true ∧ Q (.bl (decide (x = y))) H
def rNe : R2 := fun x y H Q => scal x y = true ∧ Q (.bl (!decide (x = y))) H
theorem dec_int {i j : Int} : decide (V.int i = V.int j) = (i == j) := by
  rw [Bool.eq_iff_iff]
  simp
theorem dec_bl {i j : Bool} : decide (V.bl i = V.bl j) = (i == j) := by
  rw [Bool.eq_iff_iff]
  simp
theorem dec_str {i j : Str} : decide (V.str i = V.str j) = (i == j) := by
  rw [Bool.eq_iff_iff]
  simp
theorem dec_byt {i j : Array UInt8} : decide (V.byt i = V.byt j) = (i.toList == j.toList) := by
  rw [Bool.eq_iff_iff]
  cases i
  cases j
  simp
section
variable {X : Cx} {a b c : Expr} {ta tb tc : TE} {pos : Pos}
theorem fin_bl {pins : List (Addr × Obj)} {σ : St} {H : Hp} {s : Shared} {Q : VK} {k k' : Bool} (I : Inv X pins σ H s) (q : Q (.bl k) H) (e : k = k') : EP X pins σ Q (.bool k') s := by
  subst e
  exact ⟨.bl k, H, I, rfl, q⟩
theorem op_eq : OpR X (compareOp .Eq) rEq := by
  intro pins s σ H x y v u Q I rx ry h
  obtain ⟨hs, q⟩ := h
  cases x with
  | non =>
    cases rx
    cases y with
    | non => cases ry; exact PySem.EqNone.eq_none_none (fin_bl I q (by simp))
    | bl j => cases ry; exact PySem.EqNone.eq_none_bool (fin_bl I q (by simp))
    | int j => obtain ⟨t', rfl⟩ := ry; exact PySem.EqNone.eq_none_int (fin_bl I q (by simp))
    | str j => obtain ⟨t', rfl⟩ := ry; exact PySem.EqNone.eq_none_str (fin_bl I q (by simp))
    | _ => exact absurd (show false = true from hs) Bool.false_ne_true
  | bl i =>
    cases rx
    cases y with
    | non => cases ry; exact PySem.EqNone.eq_bool_none (fin_bl I q (by simp))
    | bl j => cases ry; exact eq_bool (fin_bl I q dec_bl)
    | str j => obtain ⟨t', rfl⟩ := ry; exact PySem.EqMixed.eq_bool_str (fin_bl I q (by simp))
    | _ => exact absurd (show false = true from hs) Bool.false_ne_true
  | int i =>
    obtain ⟨t, rfl⟩ := rx
    cases y with
    | non => cases ry; exact PySem.EqNone.eq_int_none (fin_bl I q (by simp))
    | int j => obtain ⟨t', rfl⟩ := ry; exact eq_int (fin_bl I q dec_int)
    | str j => obtain ⟨t', rfl⟩ := ry; exact PySem.EqMixed.eq_int_str (fin_bl I q (by simp))
    | _ => exact absurd (show false = true from hs) Bool.false_ne_true
  | str i =>
    obtain ⟨t, rfl⟩ := rx
    cases y with
    | non => cases ry; exact PySem.EqNone.eq_str_none (fin_bl I q (by simp))
    | bl j => cases ry; exact PySem.EqMixed.eq_str_bool (fin_bl I q (by simp))
    | int j => obtain ⟨t', rfl⟩ := ry; exact PySem.EqMixed.eq_str_int (fin_bl I q (by simp))
    | str j => obtain ⟨t', rfl⟩ := ry; exact eq_str (fin_bl I q dec_str)
    | _ => exact absurd (show false = true from hs) Bool.false_ne_true
  | byt i =>
    obtain ⟨t, rfl⟩ := rx
    cases y with
    | byt j => obtain ⟨t', rfl⟩ := ry; exact PySem.W.eq_bytes (fin_bl I q dec_byt)
    | _ => exact absurd (show false = true from hs) Bool.false_ne_true
  | _ => cases y <;> exact absurd (show false = true from hs) Bool.false_ne_true
theorem op_ne : OpR X (compareOp .NotEq) rNe := by
  intro pins s σ H x y v u Q I rx ry h
  obtain ⟨hs, q⟩ := h
  cases x with
  | non =>
    cases rx
    cases y with
    | non => cases ry; exact PySem.EqNone.ne_none_none (fin_bl I q (by simp))
    | bl j => cases ry; exact PySem.EqNone.ne_none_bool (fin_bl I q (by simp))
    | int j => obtain ⟨t', rfl⟩ := ry; exact PySem.EqNone.ne_none_int (fin_bl I q (by simp))
    | str j => obtain ⟨t', rfl⟩ := ry; exact PySem.EqNone.ne_none_str (fin_bl I q (by simp))
    | _ => exact absurd (show false = true from hs) Bool.false_ne_true
  | bl i =>
    cases rx
    cases y with
    | non => cases ry; exact PySem.EqNone.ne_bool_none (fin_bl I q (by simp))
    | bl j => cases ry; exact ne_bool (fin_bl I q (congrArg not dec_bl))
    | str j => obtain ⟨t', rfl⟩ := ry; exact PySem.EqMixed.ne_bool_str (fin_bl I q (by simp))
    | _ => exact absurd (show false = true from hs) Bool.false_ne_true
  | int i =>
    obtain ⟨t, rfl⟩ := rx
    cases y with
    | non => cases ry; exact PySem.EqNone.ne_int_none (fin_bl I q (by simp))
    | int j => obtain ⟨t', rfl⟩ := ry; exact ne_int (fin_bl I q (congrArg not dec_int))
    | str j => obtain ⟨t', rfl⟩ := ry; exact PySem.EqMixed.ne_int_str (fin_bl I q (by simp))
    | _ => exact absurd (show false = true from hs) Bool.false_ne_true
  | str i =>
    obtain ⟨t, rfl⟩ := rx
    cases y with
    | non => cases ry; exact PySem.EqNone.ne_str_none (fin_bl I q (by simp))
    | bl j => cases ry; exact PySem.EqMixed.ne_str_bool (fin_bl I q (by simp))
    | int j => obtain ⟨t', rfl⟩ := ry; exact PySem.EqMixed.ne_str_int (fin_bl I q (by simp))
    | str j => obtain ⟨t', rfl⟩ := ry; exact ne_str (fin_bl I q (congrArg not dec_str))
    | _ => exact absurd (show false = true from hs) Bool.false_ne_true
  | byt i =>
    obtain ⟨t, rfl⟩ := rx
    cases y with
    | byt j => obtain ⟨t', rfl⟩ := ry; exact PySem.W.ne_bytes (fin_bl I q (congrArg not dec_byt))
    | _ => exact absurd (show false = true from hs) Bool.false_ne_true
  | _ => cases y <;> exact absurd (show false = true from hs) Bool.false_ne_true
theorem op_lt : OpR X (compareOp .Lt) (rI0 fun i j => .bl (decide (i < j))) := opB0 fun _ _ _ _ _ _ _ q => lt_int q
theorem op_le : OpR X (compareOp .LtE) (rI0 fun i j => .bl (decide (i ≤ j))) := opB0 fun _ _ _ _ _ _ _ q => le_int q
theorem op_gt : OpR X (compareOp .Gt) (rI0 fun i j => .bl (decide (j < i))) := opB0 fun _ _ _ _ _ _ _ q => gt_int q
theorem op_ge : OpR X (compareOp .GtE) (rI0 fun i j => .bl (decide (j ≤ i))) := opB0 fun _ _ _ _ _ _ _ q => ge_int q
theorem op_isN : OpR X (compareOp .Is) (fun x y H Q => y = .non ∧ Q (.bl (decide (x = .non))) H) := by
  intro pins s σ H x y v u Q I rx ry h
  obtain ⟨rfl, q⟩ := h
  cases ry
  refine is_none_gen (fin_bl I q ?_)
  cases x <;> first
    | (cases rx; rfl)
    | (obtain ⟨t, rfl⟩ := rx; rfl)
theorem op_notN : OpR X (compareOp .IsNot) (fun x y H Q => y = .non ∧ Q (.bl (!decide (x = .non))) H) := by
  intro pins s σ H x y v u Q I rx ry h
  obtain ⟨rfl, q⟩ := h
  cases ry
  refine isnot_none_gen (fin_bl I q ?_)
  cases x <;> first
    | (cases rx; rfl)
    | (obtain ⟨t, rfl⟩ := rx; rfl)
theorem nomark (b : Expr) {op : CmpOp} (h : op ≠ .In := by decide) (h2 : op ≠ .NotIn := by decide) : behindInMarks op b = false := by
  have e1 : (op == CmpOp.In) = false := by cases op <;> first | rfl | exact absurd rfl h
  have e2 : (op == CmpOp.NotIn) = false := by cases op <;> first | rfl | exact absurd rfl h2
  cases b <;> simp [behindInMarks, e1, e2]
theorem pe_cmpR {op : CmpOp} {r : R2} (ho : OpR X (compareOp op) r) (ha : PE X a ta) (hb : PE X b tb) (hm : behindInMarks op b = false) : PE X (.Compare a [op] [b] pos) (tOp r ta tb) := by
  intro pins s σ H Q I h
  exact wpAny_Compare1 (binT ha hb I h fun v u s2 x y H2 I2 rx ry q => ho pins s2 σ H2 x y v u Q I2 rx ry q) hm
def tTest (t : TE) : TT := fun σ H Q => t σ H fun x H' => ∃ k, x = .bl k ∧ Q k H'
theorem pt_cmpR {op : CmpOp} {r : R2} (ho : OpR X (compareOp op) r) (ha : PE X a ta) (hb : PE X b tb) (hm : behindInMarks op b = false) : PT X (.Compare a [op] [b] pos) (tTest (tOp r ta tb)) := by
  intro pins s σ H Q I h
  refine wpAny_isTrue_Compare1 (thn (ha pins s σ H _ I h) fun v s1 ⟨x, H1, I1, r1, q1⟩ => thn (hb pins s1 σ H1 _ I1 q1) fun u s2 ⟨y, H2, I2, r2, q2⟩ =>
    thn (ho pins s2 σ H2 x y v u _ I2 r1 r2 q2) fun c s3 ⟨z, H3, I3, r3, k, e, q3⟩ => ?_) hm
  subst e
  cases r3
  exact wpAny_truthy_bool ⟨H3, I3, q3⟩
def tChain (r r' : R2) (ta tb tc : TE) : TE := fun σ H Q => ta σ H fun x H1 => tb σ H1 fun y H2 => r x y H2 fun z H3 => ∃ k, z = .bl k ∧
  (if k = true then tc σ H3 fun w' H4 => r' y w' H4 Q else Q (.bl false) H3)
theorem pe_chain {op op' : CmpOp} {r r' : R2} (ho : OpR X (compareOp op) r) (ho' : OpR X (compareOp op') r') (ha : PE X a ta) (hb : PE X b tb) (hc : PE X c tc)
    (hm : lastMarks [op, op'] [b, c] = false := by with_unfolding_all rfl) : PE X (.Compare a [op, op'] [b, c] pos) (tChain r r' ta tb tc) := by
  intro pins s σ H Q I h
  refine Compare_chain (thn (ha pins s σ H _ I h) fun v s1 ⟨x, H1, I1, r1, q1⟩ => chain_link (thn (hb pins s1 σ H1 _ I1 q1) fun u s2 ⟨y, H2, I2, r2, q2⟩ =>
    thn (ho pins s2 σ H2 x y v u _ I2 r1 r2 q2) fun d s3 ⟨z, H3, I3, r3, k, e, q3⟩ => ?_)) hm
  subst e
  cases r3
  refine wpAny_truthy_bool ?_
  cases k with
  | false => exact ite_ff ⟨.bl false, H3, I3, rfl, q3⟩
  | true => exact ite_tt (chain_last (thn (hc pins s3 σ H3 _ I3 q3) fun w' s4 ⟨z', H4, I4, r4, q4⟩ => ho' pins s4 σ H4 y z' u w' Q I4 r2 r4 q4))
theorem pt_chain {op op' : CmpOp} {r r' : R2} (ho : OpR X (compareOp op) r) (ho' : OpR X (compareOp op') r') (ha : PE X a ta) (hb : PE X b tb) (hc : PE X c tc)
    (hm : lastMarks [op, op'] [b, c] = false := by with_unfolding_all rfl) : PT X (.Compare a [op, op'] [b, c] pos) (tTest (tChain r r' ta tb tc)) := by
  intro pins s σ H Q I h
  refine isTrue_chain (thn (ha pins s σ H _ I h) fun v s1 ⟨x, H1, I1, r1, q1⟩ => test_link (thn (hb pins s1 σ H1 _ I1 q1) fun u s2 ⟨y, H2, I2, r2, q2⟩ =>
    thn (ho pins s2 σ H2 x y v u _ I2 r1 r2 q2) fun d s3 ⟨z, H3, I3, r3, k, e, q3⟩ => ?_)) hm
  subst e
  cases r3
  refine wpAny_truthy_bool ?_
  cases k with
  | false =>
    obtain ⟨k', e', q'⟩ := q3
    cases e'
    exact ite_ff ⟨H3, I3, q'⟩
  | true =>
    refine ite_tt (test_last (thn (hc pins s3 σ H3 _ I3 q3) fun w' s4 ⟨z', H4, I4, r4, q4⟩ => thn (ho' pins s4 σ H4 y z' u w' _ I4 r2 r4 q4) fun d' s5 ⟨z2, H5, I5, r5, k2, e2, q5⟩ => ?_))
    subst e2
    cases r5
    exact wpAny_truthy_bool ⟨H5, I5, q5⟩
theorem line63 : (sizeLine : Nat) < 2 ^ 63 := by rw [sizeLine_eq]; decide
theorem vals1 {x : V} {us : List Value} (r : Vals [x] us) : ∃ u, us = [u] ∧ RelV x u := by
  cases r with
  | cons r1 r2 => cases r2; exact ⟨_, rfl, r1⟩
theorem vals2 {x y : V} {us : List Value} (r : Vals [x, y] us) : ∃ u w', us = [u, w'] ∧ RelV x u ∧ RelV y w' := by
  cases r with
  | cons r1 r2 =>
    cases r2 with
    | cons r3 r4 => cases r4; exact ⟨_, _, rfl, r1, r3⟩
theorem call_abs : CallR X (.builtin "abs") (fun xs H Q => ∃ i, xs = [.int i] ∧ Q (.int (if i < 0 then -i else i)) H) := by
  intro pins s σ H xs us Q I r h
  obtain ⟨i, rfl, q⟩ := h
  obtain ⟨u, rfl, t, rfl⟩ := vals1 r
  exact call_abs_int fun u tk => ⟨.int (if i < 0 then -i else i), H, I.tok _, ⟨_, rfl⟩, q⟩
theorem call_max2 (hc : X.calm = true) : CallR X (.builtin "max") (fun xs H Q => ∃ i j, xs = [.int i, .int j] ∧ Q (.int (if j > i then j else i)) H) := by
  intro pins s σ H xs us Q I r h
  obtain ⟨i, j, rfl, q⟩ := h
  obtain ⟨u, w', rfl, ⟨t, rfl⟩, ⟨t', rfl⟩⟩ := vals2 r
  refine max_two_ints (I.ok.hd hc) fun h' tk k => ⟨_, H, I.kept k, ?_, q⟩
  by_cases hj : j > i
  · rw [if_pos hj, if_pos hj]; exact ⟨_, rfl⟩
  · rw [if_neg hj, if_neg hj]; exact ⟨_, rfl⟩
theorem call_min2 (hc : X.calm = true) : CallR X (.builtin "min") (fun xs H Q => ∃ i j, xs = [.int i, .int j] ∧ Q (.int (if j < i then j else i)) H) := by
  intro pins s σ H xs us Q I r h
  obtain ⟨i, j, rfl, q⟩ := h
  obtain ⟨u, w', rfl, ⟨t, rfl⟩, ⟨t', rfl⟩⟩ := vals2 r
  refine min_two_ints (I.ok.hd hc) fun h' tk k => ⟨_, H, I.kept k, ?_, q⟩
  by_cases hj : j < i
  · rw [if_pos hj, if_pos hj]; exact ⟨_, rfl⟩
  · rw [if_neg hj, if_neg hj]; exact ⟨_, rfl⟩
end
end L2
namespace L2
open PySem PySem.Spec PyProof.Rows
structure ObjM (h : Heap) (x dx C : Addr) (mA : Str → Option Value) : Prop where
  obj : h.get? x = some (PySem.W.instObj C dx)
  ns : h.Ns1 dx mA
  ne : dx ≠ x
theorem lookIn_ns {h : Heap} {dx : Addr} {mA : Str → Option Value} (n : h.Ns1 dx mA) : ∃ od, h.get? dx = some od ∧ ∀ name, PySem.W.lookIn name od = some (mA name) := by
  obtain ⟨o, es, ep, ho, hd, hk, _, hm⟩ := n
  refine ⟨o, ho, fun name => ?_⟩
  have e := hm name
  unfold nsFind findBy at e
  rw [← Array.find?_toList] at e
  unfold PySem.W.lookIn
  rw [hd]
  dsimp only
  split
  · rename_i y q
    rw [q] at e
    exact congrArg some e
  · rename_i q
    rw [q] at e
    have a : es.toList.any (·.refKey) = false := by
      rw [List.any_eq_false]
      intro y hy
      obtain ⟨z, t, hkey⟩ := hk y (Array.mem_toList_iff.mp hy)
      simp [DictEntry.refKey, hkey]
    have a' : ¬ es.toList.any (·.refKey) = true := by rw [a]; exact Bool.false_ne_true
    rw [if_neg a']
    exact congrArg some e
theorem ObjM.look {h : Heap} {x dx C : Addr} {mA : Str → Option Value} (I : ObjM h x dx C mA) : ∃ od, PySem.W.InstAt h x (PySem.W.instObj C dx) C (some od) ∧ ∀ name, PySem.W.lookIn name od = some (mA name) :=
  let ⟨od, ho, hl⟩ := lookIn_ns I.ns
  ⟨od, ⟨I.obj, rfl, rfl, ho⟩, hl⟩
section
variable {prog : Program} {w : World} {A : Around} {E : Value → Shared → Prop} {s : Shared} {K : PySem.W.Frag} {x dx C f : Addr} {mA : Str → Option Value} {name : Str} {v : Value}
theorem get_map {expr : Bool} {Q : Value → Shared → Prop} (X : K.In s.heap) (I : ObjM s.heap x dx C mA) (hg : PySem.W.plainGet K C name = true) (hh : PySem.W.hasDictIn K C = true)
    (ha : PySem.W.findIn K (.ref C) name = some none) (hv : mA name = some v) (hv' : PySem.W.handedIn v = true) (h : Q v { s with toks := s.toks + 1 }) :
    wpAny (model prog w) A (getAttr (.ref x) name expr) Q E s := by
  obtain ⟨od, J, hl⟩ := I.look
  exact PySem.W.get_value X J (PySem.W.plainGet_of hg).1 (PySem.W.findObj_own hh ha rfl (by rw [hl, hv])) hv' h
theorem get_meth {pl : Sem Bool} {Q : Value × List Value → Shared → Prop} (X : K.In s.heap) (I : ObjM s.heap x dx C mA) (hg : PySem.W.plainGet K C name = true)
    (hf : PySem.W.findIn K (.ref C) name = some (some (.ref f))) (ht : PySem.W.isFn K (.ref f) = true) (hv : mA name = none) (h : Q (.ref f, [.ref x]) s) :
    wpAny (model prog w) A (getMethod (.ref x) name pl) Q E s := by
  obtain ⟨od, J, hl⟩ := I.look
  exact PySem.W.method_fn X J (PySem.W.plainGet_of hg).1 (PySem.W.plainGet_of hg).2 hf (beq_iff_eq.mp ht) (by show (PySem.W.lookIn name od).map (·.isSome) = some false; rw [hl, hv]; rfl) h
theorem set_map {ns : List Str} {Q : Unit → Shared → Prop} (X : K.In s.heap) (I : ObjM s.heap x dx C mA)
    (hs : PySem.W.findIn K (.ref C) "__setattr__" = some (some (.builtin "object.__setattr__"))) (hp : PySem.W.plainOver K C = true) (ht : PySem.W.takerIn K C name = some none) (hh : PySem.W.hasDictIn K C = true)
    (hw : PySem.Within mA ns) (hsz : ns.length ≤ sizeLine)
    (h : ∀ h', ObjM h' x dx C (fun y => if y = name then some v else mA y) → Heap.SameBut dx s.heap h' → Q () { s with heap := h', toks := s.toks + 2 }) :
    wpAny (model prog w) A (setAttr (.ref x) name v) Q E s := by
  obtain ⟨od, J, hl⟩ := I.look
  refine PySem.W.set_plain X J hs (PySem.W.osa_open (s := { s with toks := s.toks + 1 }) (r := none) X J hp ht fun b => ?_)
  obtain ⟨cd, hc, hd'⟩ := PySem.W.any_some hh
  have hx : s.heap.get? x = some ⟨.ref C, some dx, .plain, #[]⟩ := I.obj
  refine wpAny_bind (wpAny_pure (wpAny_bind (wpAny_bind (wpAny_loadPart hx (wpAny_bind (PySem.W.Looks.here (s := { s with toks := s.toks + 1 }) (PySem.W.looks_clsIn X hc) ?_))))))
  rw [hd']
  refine wpAny_pure (a := some dx) (wpAny_bind (wpAny_pure (wpAny_bind ?_)))
  refine wpAny_nsSet1 (s := { s with toks := s.toks + 1 }) I.ns fun h' hn2 hs2 => ?_
  obtain ⟨oD, esD, epD, hoD, hdD, hcD⟩ := hn2.count (PySem.Within.cons name v hw)
  refine wpAny_bind (wpAny_lookBehind hoD (by rw [hdD]; exact pastItsLine_dict (Nat.le_trans hcD (by rw [List.length_cons]; omega))) ?_)
  exact wpAny_pure (h _ ⟨(hs2.2 _ (Ne.symm I.ne)).trans I.obj, hn2, I.ne⟩ hs2)
theorem make_map {R : Result → Shared → Prop} {vs : List Value} {kw : List (Str × Value)} (X : K.In s.heap) (hm : PySem.W.makesIn K C = true)
    (hi : PySem.W.findIn K (.ref C) "__init__" = some (some (.ref f))) (hf : PySem.W.typeIn K (.ref f) = some (.type "function"))
    (h : codeAny (model prog w) (A.under (.builtin "type.__call__" ⟨.ref C :: vs, kw⟩)) (.call (.ref f) ⟨.ref (s.heap.objs.size + 1) :: vs, kw⟩) (PySem.W.InitBack (s.heap.objs.size + 1) R)
      { s with heap := (s.heap.push PySem.W.emptyDict).push (PySem.W.instObj C s.heap.objs.size) }) :
    codeAny (model prog w) A (.call (.ref C) ⟨vs, kw⟩) R s := by
  obtain ⟨hh, g, d, t, os⟩ := s
  exact PySem.W.make_core (PySem.W.makes_of X hm) (PySem.W.looks_findIn X hi) (fun self => PySem.W.bind_fn X self hf) (.inl rfl) h
end
def putF (f : Str) (v : V) : List (Str × V) → List (Str × V)
  | [] => [(f, v)]
  | (g, x) :: r => if g = f then (g, v) :: r else (g, x) :: putF f v r
theorem lookup_putF (f g : Str) (v : V) : ∀ fs : List (Str × V), (putF f v fs).lookup g = if g = f then some v else fs.lookup g
  | [] => by
    show List.lookup g [(f, v)] = _
    by_cases h : g = f
    · have hb : (g == f) = true := beq_iff_eq.mpr h
      simp only [List.lookup, hb, if_pos h]
    · have hb : (g == f) = false := beq_eq_false_iff_ne.mpr h
      simp only [List.lookup, hb, if_neg h]
  | (k, x) :: r => by
    have ih := lookup_putF f g v r
    rw [show putF f v ((k, x) :: r) = (if k = f then (k, v) :: r else (k, x) :: putF f v r) from rfl]
    by_cases hk : k = f
    · rw [if_pos hk]
      by_cases h : g = k
      · have hb : (g == k) = true := beq_iff_eq.mpr h
        simp only [List.lookup, hb, if_pos (h.trans hk)]
      · have hb : (g == k) = false := beq_eq_false_iff_ne.mpr h
        simp only [List.lookup, hb, if_neg (fun e : g = f => h (e.trans hk.symm))]
    · rw [if_neg hk]
      by_cases h : g = k
      · have hb : (g == k) = true := beq_iff_eq.mpr h
        simp only [List.lookup, hb, if_neg (fun e : g = f => hk (h.symm.trans e))]
      · have hb : (g == k) = false := beq_eq_false_iff_ne.mpr h
        simp only [List.lookup, hb]
        exact ih
theorem keys_putF (f : Str) (v : V) : ∀ fs : List (Str × V), f ∈ (putF f v fs).map (·.1) ∧ ∀ g, g ∈ fs.map (·.1) → g ∈ (putF f v fs).map (·.1)
  | [] => ⟨by simp [putF], fun g h => by simp at h⟩
  | (k, x) :: r => by
    obtain ⟨i1, i2⟩ := keys_putF f v r
    rw [show putF f v ((k, x) :: r) = (if k = f then (k, v) :: r else (k, x) :: putF f v r) from rfl]
    by_cases hk : k = f
    · rw [if_pos hk]
      subst hk
      exact ⟨by simp, fun g h => by simpa using h⟩
    · rw [if_neg hk]
      refine ⟨?_, fun g h => ?_⟩
      · rw [List.map_cons]
        exact List.mem_cons_of_mem _ i1
      · rw [List.map_cons] at h ⊢
        rcases List.mem_cons.mp h with e | e
        · exact List.mem_cons.mpr (.inl e)
        · exact List.mem_cons_of_mem _ (i2 g e)
theorem length_putF (f : Str) (v : V) : ∀ fs : List (Str × V), (putF f v fs).length ≤ fs.length + 1
  | [] => by simp [putF]
  | (k, x) :: r => by
    have ih := length_putF f v r
    rw [show putF f v ((k, x) :: r) = (if k = f then (k, v) :: r else (k, x) :: putF f v r) from rfl]
    by_cases hk : k = f
    · rw [if_pos hk, List.length_cons, List.length_cons]; omega
    · rw [if_neg hk, List.length_cons, List.length_cons]; omega
theorem RelO.some_of {v : V} {o : Option Value} (r : RelO (some v) o) : ∃ u, o = some u ∧ RelV v u := by
  cases o with
  | none => exact (show False from r).elim
  | some u => exact ⟨u, rfl, r⟩
theorem RelO.none_of {o : Option Value} (r : RelO none o) : o = none := by
  cases o with
  | none => rfl
  | some u => exact (show False from r).elim
theorem handed_of {v : V} {u : Value} (r : RelV v u) : PySem.W.handedIn u = true := by
  cases v with
  | non => cases (show u = Value.none from r); rfl
  | bl b => cases (show u = Value.bool b from r); rfl
  | int i => obtain ⟨t, e⟩ := (show ∃ t, u = Value.int i t from r); cases e; rfl
  | str x => obtain ⟨t, e⟩ := (show ∃ t, u = Value.str x t from r); cases e; rfl
  | byt b => obtain ⟨t, e⟩ := (show ∃ t, u = Value.bytes b t from r); cases e; rfl
  | flt b => obtain ⟨t, e⟩ := (show ∃ t, u = Value.float b t from r); cases e; rfl
  | ref a => cases (show u = Value.ref a from r); rfl
  | ty n => cases (show u = Value.type n from r); rfl
section
variable {P : Program} {w : World} {H H' : Hp} {h h' : Heap} {a C dx : Addr} {fs fs' : List (Str × V)}
theorem ins_get (hok : HOk P w H h) (e : H a = some (.ins C dx fs)) : ∃ mA, ObjM h a dx C mA ∧ (∀ f, RelO (fs.lookup f) (mA f)) ∧ PySem.Within mA (fs.map (·.1)) ∧ fs.length ≤ 1000 ∧ H dx = some (.own a) := by
  obtain ⟨d, z, ne, ob, mA, n, r, q⟩ := (show ObjOk P w H h a (.ins C dx fs) from hok a _ e)
  exact ⟨mA, ⟨ob, n, ne⟩, r, q, z, d⟩
end
structure Cls (K : PySem.W.Frag) (C : Addr) : Prop where
  pg : PySem.W.plainGet K C Str.empty = true
  hd : PySem.W.hasDictIn K C = true
  po : PySem.W.plainOver K C = true
  sa : PySem.W.findIn K (.ref C) "__setattr__" = some (some (.builtin "object.__setattr__"))
theorem Cls.get {K : PySem.W.Frag} {C : Addr} (c : Cls K C) (f : Str) : PySem.W.plainGet K C f = true := c.pg
def NoAttr (K : PySem.W.Frag) (C : Addr) (f : Str) : Prop := PySem.W.findIn K (.ref C) f = some none
theorem NoAttr.taker {K : PySem.W.Frag} {C : Addr} {f : Str} (n : NoAttr K C f) : PySem.W.takerIn K C f = some none := by
  unfold PySem.W.takerIn
  rw [show PySem.W.findIn K (.ref C) f = some none from n]
  rfl
structure Meth (K : PySem.W.Frag) (C : Addr) (m : Str) (f : Addr) : Prop where
  at_ : PySem.W.findIn K (.ref C) m = some (some (.ref f))
  fn : PySem.W.isFn K (.ref f) = true
  kp : PySem.W.keepIn K (.ref f) = true
section
variable {X : Cx} {pins : List (Addr × Obj)} {σ : St} {H : Hp} {s : Shared} {a C dx : Addr} {fs : List (Str × V)} {f : Str} {v : V} {A : Around} {E : Value → Shared → Prop}
theorem getattr_ok {b : Bool} {Q : Value → Shared → Prop} (I : Inv X pins σ H s) (e : H a = some (.ins C dx fs)) (c : Cls X.K C) (n : NoAttr X.K C f) (l : fs.lookup f = some v)
    (h : ∀ u s', Inv X pins σ H s' → RelV v u → Q u s') : wpAny (model X.prog X.w) A (getAttr (.ref a) f b) Q E s := by
  obtain ⟨mA, O, r, _, _, _⟩ := ins_get I.hok e
  obtain ⟨u, hu, ru⟩ := RelO.some_of (v := v) (o := mA f) (by rw [← l]; exact r f)
  exact get_map I.kIn O (c.get f) c.hd n hu (handed_of ru) (h u _ (I.tok _) ru)
theorem getmeth_ok {m : Str} {g : Addr} {pl : Sem Bool} {Q : Value × List Value → Shared → Prop} (I : Inv X pins σ H s) (e : H a = some (.ins C dx fs)) (c : Cls X.K C) (k : Meth X.K C m g) (l : fs.lookup m = none)
    (h : Q (.ref g, [.ref a]) s) : wpAny (model X.prog X.w) A (getMethod (.ref a) m pl) Q E s := by
  obtain ⟨mA, O, r, _, _, _⟩ := ins_get I.hok e
  have hn : mA m = none := RelO.none_of (by rw [← l]; exact r m)
  exact get_meth I.kIn O (c.get m) k.at_ k.fn hn h
theorem setattr_ok {y : V} {u : Value} {Q : Unit → Shared → Prop} (I : Inv X pins σ H s) (e : H a = some (.ins C dx fs)) (c : Cls X.K C) (n : NoAttr X.K C f) (hl : fs.length < 1000) (ry : RelV y u)
    (h : ∀ s', Inv X pins σ (upd H a (.ins C dx (putF f y fs))) s' → Q () s') : wpAny (model X.prog X.w) A (setAttr (.ref a) f u) Q E s := by
  obtain ⟨mA, O, r, wi, _, ho⟩ := ins_get I.hok e
  have hz : (fs.map (·.1)).length ≤ sizeLine := by rw [List.length_map, sizeLine_eq]; omega
  refine set_map I.kIn O c.sa c.po n.taker c.hd wi hz fun h' O' sb => h _ ?_
  have hd : ∃ o, h'.get? dx = some o := let ⟨o, _, _, e', _⟩ := O'.ns; ⟨o, e'⟩
  refine I.write (x := a) (e := dx) (by rw [e]; exact True.intro) (.inr ho) (fun b q hb z => (sb.2 b hb).trans z) hd ?_
  refine ⟨by rw [upd_ne O.ne]; exact ho, ?_, O.ne, O'.obj, _, O'.ns, fun g => ?_, fun g hg => ?_⟩
  · have := length_putF f y fs; omega
  · show RelO ((putF f y fs).lookup g) (if g = f then some u else mA g)
    rw [lookup_putF]
    by_cases q : g = f
    · rw [if_pos q, if_pos q]; exact ry
    · rw [if_neg q, if_neg q]; exact r g
  · by_cases q : g = f
    · rw [q]; exact (keys_putF f y fs).1
    · refine (keys_putF f y fs).2 g (wi g fun z => hg ?_)
      show (if g = f then some u else mA g) = none
      rw [if_neg q]; exact z
theorem Inv.made (I : Inv X pins σ H s) : Inv X pins σ (upd (upd H s.heap.objs.size (.own (s.heap.objs.size + 1))) (s.heap.objs.size + 1) (.ins C s.heap.objs.size []))
    { s with heap := (s.heap.push PySem.W.emptyDict).push (PySem.W.instObj C s.heap.objs.size) } := by
  have e1 : (s.heap.push PySem.W.emptyDict).get? s.heap.objs.size = some PySem.W.emptyDict := Heap.get?_push_size s.heap rfl
  have e2 : ((s.heap.push PySem.W.emptyDict).push (PySem.W.instObj C s.heap.objs.size)).get? (s.heap.objs.size + 1) = some (PySem.W.instObj C s.heap.objs.size) := by
    have := Heap.get?_push_size (s.heap.push PySem.W.emptyDict) (o := PySem.W.instObj C s.heap.objs.size) rfl
    rwa [Heap.size_push] at this
  have e3 : (s.heap.push PySem.W.emptyDict).Ns s.heap.objs.size (fun _ => none) := ⟨PySem.W.emptyDict, #[], _, e1, rfl, (fun e he => absurd he (by simp)), fun _ => rfl⟩
  have I1 := I.laid (a := s.heap.objs.size) (o := .own (s.heap.objs.size + 1)) (h' := s.heap.push PySem.W.emptyDict) (t' := s.toks) (fun b u q => Heap.get?_push_of_some _ q) (Nat.le_refl _) ⟨_, e1⟩
  refine I1.laid (a := s.heap.objs.size + 1) (o := .ins C s.heap.objs.size []) (t' := s.toks) (fun b u q => Heap.get?_push_of_some _ q) (Nat.le_of_eq (Heap.size_push _ _)) ?_
  have ne : s.heap.objs.size ≠ s.heap.objs.size + 1 := Nat.ne_of_lt (Nat.lt_succ_self _)
  refine ⟨by rw [upd_ne ne, upd_same], Nat.zero_le _, ne, e2, fun _ => none, (Heap.Ns1.of_empty e3).at fun o q => Heap.get?_push_of_some _ q, fun _ => True.intro, fun y hy => absurd rfl hy⟩
theorem attr_of {prog : Program} {w : World} {env : Env} {e : Expr} {f : Str} {pos : Pos} {s : Shared} {Q : Value → Shared → Prop} (hb : attributeBase e f env (eval e env) = eval e env)
    (h : wpAny (model prog w) A (eval e env) (fun o s₁ => wpAny (model prog w) A (getAttr o f true) Q E s₁) E s) : wpAny (model prog w) A (eval (.Attribute e f pos) env) Q E s :=
  Attribute_any_ h (by rw [arm_eval_Attribute, hb])
end
def tFld (K : PySem.W.Frag) (ta : TE) (f : Str) : TE := fun σ H Q => ta σ H fun x H1 => ∃ a C dx fs v, x = .ref a ∧ H1 a = some (.ins C dx fs) ∧ Cls K C ∧ NoAttr K C f ∧ fs.lookup f = some v ∧ Q v H1
def sFld (K : PySem.W.Frag) (ta tv : TE) (f : Str) : TS := fun D σ H => tv σ H fun y H1 => ta σ H1 fun x H2 => ∃ a C dx fs, x = .ref a ∧ H2 a = some (.ins C dx fs) ∧ Cls K C ∧ NoAttr K C f ∧ fs.length < 1000 ∧
  D.nx σ (upd H2 a (.ins C dx (putF f y fs)))
def InOp (X : Cx) (op : Operator) (rd : V → V → Hp → VK → Prop) : Prop :=
  ∀ (pins : List (Addr × Obj)) (s : Shared) (σ : St) (H : Hp) (x y : V) (u v : Value) (Q : VK), Inv X pins σ H s → RelV x u → RelV y v → rd x y H Q → wpAny (model X.prog X.w) X.A (inplaceOp op u v) (EP X pins σ Q) X.xe s
def sFldAug (K : PySem.W.Frag) (ta tv : TE) (rd : V → V → Hp → VK → Prop) (f : Str) : TS := fun D σ H => ta σ H fun x H1 => ∃ a C dx fs v, x = .ref a ∧ H1 a = some (.ins C dx fs) ∧ Cls K C ∧ NoAttr K C f ∧ fs.lookup f = some v ∧
  tv σ H1 fun y H2 => rd v y H2 fun z H3 => ∃ dx' fs', H3 a = some (.ins C dx' fs') ∧ fs'.length < 1000 ∧ D.nx σ (upd H3 a (.ins C dx' (putF f z fs')))
section
variable {X : Cx} {o e value : Expr} {f : Str} {pos pos' tpos : Pos} {ta tv : TE}
theorem pe_fld (he : PE X e ta) (hb : attributeBase e f X.env (eval e X.env) = eval e X.env) : PE X (.Attribute e f pos) (tFld X.K ta f) := by
  intro pins s σ H Q I h
  refine attr_of hb (thn (he pins s σ H _ I h) fun u s1 ⟨x, H1, I1, rx, a, C, dx, fs, v, ex, ea, c, n, l, q⟩ => ?_)
  subst ex
  obtain rfl : u = Value.ref a := rx
  exact getattr_ok I1 ea c n l fun u' s2 I2 ru => ⟨v, H1, I2, ru, q⟩
theorem ps_fld (ha : PE X o ta) (hv : PE X value tv) (hs : swapsWith value (some (.Attribute o f pos')) pos.line X.env = pure false) : PS X (.Assign [.Attribute o f pos'] value pos) (sFld X.K ta tv f) := by
  intro pins s σ H D I h
  refine plainObj_wpAny_Assign_Attribute (thn (hv pins s σ H _ I h) fun u s1 ⟨y, H1, I1, ry, q⟩ => thn (ha pins s1 σ H1 _ I1 q) fun ov s2 ⟨x, H2, I2, rx, a, C, dx, fs, ex, ea, c, n, l, q2⟩ => ?_) hs
  subst ex
  obtain rfl : ov = Value.ref a := rx
  exact setattr_ok I2 ea c n l ry fun s3 I3 => ⟨σ, _, I3, q2⟩
theorem ps_fldaug {op : Operator} {rd : V → V → Hp → VK → Prop} (ha : PE X o ta) (hv : PE X value tv) (hop : InOp X op rd) : PS X (.AugAssign (.Attribute o f tpos) op value pos) (sFldAug X.K ta tv rd f) := by
  intro pins s σ H D I h
  refine wpAny_AugAssign_AttributeAny (thn (ha pins s σ H _ I h) fun ov s1 ⟨x, H1, I1, rx, a, C, dx, fs, v, ex, ea, c, n, l, q⟩ => ?_)
  subst ex
  obtain rfl : ov = Value.ref a := rx
  refine getattr_ok I1 ea c n l fun u s2 I2 ru => thn (hv pins s2 σ H1 _ I2 q) fun w3 s3 ⟨y, H2, I3, ry, q3⟩ => thn (hop pins s3 σ H2 v y u w3 _ I3 ru ry q3) fun w4 s4 ⟨z, H3, I4, rz, dx', fs', ea', l', q4⟩ => ?_
  exact setattr_ok I4 ea' c n l' rz fun s5 I5 => ⟨σ, _, I5, q4⟩
def rAdd : V → V → Hp → VK → Prop := fun x y H Q => ∃ i j, x = .int i ∧ y = .int j ∧ Q (.int (i + j)) H
def rSub : V → V → Hp → VK → Prop := fun x y H Q => ∃ i j, x = .int i ∧ y = .int j ∧ Q (.int (i - j)) H
theorem in_add : InOp X .Add rAdd := by
  rintro pins s σ H x y u v Q I rx ry ⟨i, j, rfl, rfl, q⟩
  obtain ⟨t, rfl⟩ := (show ∃ t, u = Value.int i t from rx)
  obtain ⟨t', rfl⟩ := (show ∃ t', v = Value.int j t' from ry)
  exact PyProof.Rows.iadd_int ⟨.int (i + j), H, I.tok _, ⟨_, rfl⟩, q⟩
theorem in_sub : InOp X .Sub rSub := by
  rintro pins s σ H x y u v Q I rx ry ⟨i, j, rfl, rfl, q⟩
  obtain ⟨t, rfl⟩ := (show ∃ t, u = Value.int i t from rx)
  obtain ⟨t', rfl⟩ := (show ∃ t', v = Value.int j t' from ry)
  exact PyProof.Rows.isub_int ⟨.int (i - j), H, I.tok _, ⟨_, rfl⟩, q⟩
end
end L2
namespace L2
open PySem PySem.Spec PyProof.Rows
structure Room (k : Nat) (A : Around) : Prop where
  hd : A.handled = none
  dp : A.depth + 3 * k + 5 < recursionLimit
  un : A.units + 16 * k + 200 < cLine
theorem Room.mono {j k : Nat} {A : Around} (r : Room k A) (h : j ≤ k) : Room j A := ⟨r.hd, by have := r.dp; omega, by have := r.un; omega⟩
theorem Room.deeper {k : Nat} {A : Around} (r : Room (k + 1) A) (env : Env) : Room k (A.deeper env) :=
  ⟨r.hd, by have := r.dp; show A.depth + 1 + 3 * k + 5 < _; omega, by have := r.un; show A.units + 3 + 16 * k + 200 < _; omega⟩
theorem Room.in1 {k : Nat} {A : Around} (r : Room (k + 1) A) : Room k A.in1 :=
  ⟨r.hd, by have := r.dp; show A.depth + 3 * k + 5 < _; omega, by have := r.un; show A.units + 1 + 16 * k + 200 < _; omega⟩
theorem make_depth {A : Around} {C : Addr} {us : List Value} {kw : List (Str × Value)} : (A.under (.builtin "type.__call__" ⟨.ref C :: us, kw⟩)).depth = A.depth + 1 := by
  first | rfl | simp [Around.under, Code.weight, Code.isCreation, Code.isGuard, Code.isCaller, Code.frames, Code.isFrame, guardIds]
theorem make_units {A : Around} {C : Addr} {us : List Value} {kw : List (Str × Value)} : (A.under (.builtin "type.__call__" ⟨.ref C :: us, kw⟩)).units = A.units + 1 := by
  first | rfl | simp [Around.under, Code.cUnits, Code.frames, Code.isFrame]
theorem Room.make {k : Nat} {A : Around} (r : Room (k + 1) A) (C : Addr) (us : List Value) (kw : List (Str × Value)) : Room k (A.under (.builtin "type.__call__" ⟨.ref C :: us, kw⟩)) :=
  ⟨r.hd, by have := r.dp; rw [make_depth]; omega, by have := r.un; rw [make_units]; omega⟩
theorem Room.depth {k : Nat} {A : Around} (r : Room k A) : A.depth < recursionLimit := by have := r.dp; omega
theorem Room.units {k : Nat} {A : Around} (r : Room k A) : A.units + 64 < cLine := by have := r.un; omega
def tNil : TA := fun _ H Q => Q [] H
def tCons (ta : TE) (tr : TA) : TA := fun σ H Q => ta σ H fun x H1 => tr σ H1 fun xs H2 => Q (x :: xs) H2
section
variable {X : Cx} {e : Expr} {es : List Expr} {te : TE} {t : TA} {pos : Pos}
theorem pa_nil : PA X [] tNil := fun _ _ _ _ H Q I h => Calls.spliced_nil ⟨[], H, I, .nil, h⟩
theorem pa_cons (ha : PE X e te) (hr : PA X es t) (hs : starEach (e :: es) X.env = (false, eval e X.env) :: starEach es X.env := by rfl) : PA X (e :: es) (tCons te t) := by
  intro pos pins s σ H Q I h
  rw [hs]
  show wpAny _ _ (spliced ((false, eval e X.env) :: backTo pos (starEach es X.env))) _ _ s
  refine Calls.spliced_cons (thn (ha pins s σ H _ I h) fun u s1 ⟨x, H1, I1, r1, q1⟩ => ?_)
  exact thn (hr pos pins s1 σ H1 _ I1 q1) fun us s2 ⟨xs, H2, I2, r2, q2⟩ => ⟨x :: xs, H2, I2, .cons r1 r2, q2⟩
def tTup (t : TA) : TE := fun σ H Q => t σ H fun xs H1 => xs.length ≤ sizeLine ∧ ∀ p, H1 p = none → Q (.ref p) (upd H1 p (.tup xs))
def tLst (t : TA) : TE := fun σ H Q => t σ H fun xs H1 => xs.length ≤ sizeLine ∧ ∀ p, H1 p = none → Q (.ref p) (upd H1 p (.lst xs))
theorem pe_tup {x1} (h : PA X es t) : PE X (.Tuple es x1 pos) (tTup t) := by
  intro pins s σ H Q I hq
  refine wpAny_Tuple_spliced (thn (h pos pins s σ H _ I hq) fun us s1 ⟨xs, H1, I1, r, z, q⟩ => ⟨by rw [← r.length]; exact z, ?_⟩)
  have hf : H1 s1.heap.objs.size = none := I1.hok.fresh (Nat.le_refl _)
  refine ⟨.ref s1.heap.objs.size, upd H1 s1.heap.objs.size (.tup xs), I1.laid (t' := s1.toks) (fun b u e => Heap.get?_push_of_some _ e) (Nat.le_refl _) ?_, rfl, q _ hf⟩
  exact ⟨z, us, r, ⟨_, Heap.get?_push_size _ rfl, rfl, _, rfl⟩⟩
theorem pe_lst (h : PA X es t) : PE X (.List es pos) (tLst t) := by
  intro pins s σ H Q I hq
  refine wpAny_List_spliced (thn (h pos pins s σ H _ I hq) fun us s1 ⟨xs, H1, I1, r, z, q⟩ => ⟨by rw [← r.length]; exact z, ?_⟩)
  have hf : H1 s1.heap.objs.size = none := I1.hok.fresh (Nat.le_refl _)
  refine ⟨.ref s1.heap.objs.size, upd H1 s1.heap.objs.size (.lst xs), I1.laid (t' := s1.toks) (fun b u e => Heap.get?_push_of_some _ e) (Nat.le_refl _) ?_, rfl, q _ hf⟩
  exact ⟨z, us, 0, r, Heap.get?_push_size _ rfl⟩
end
abbrev Sp := List V → Hp → VK → XK → Prop
abbrev CXT := List Env → Hp → Shared → XK → Value → Shared → Prop
structure Env0 (P : Program) (w : World) (K : PySem.W.Frag) (mg : Str → Option Value) (base : Heap) (A : Around) (outer : List Env) (s : Shared) (H : Hp) : Prop where
  frames : A.frames = some outer
  mod : Mod K mg base
  bs : ∀ b o, base.get? b = some o → s.heap.get? b = some o ∧ H b = none
  bsz : base.objs.size ≤ s.heap.objs.size
  funs : s.heap.FunFrames base outer
  frf : ∀ b ∈ frs outer, H b = none
  hok : HOk P w H s.heap
  bare : AllBare s.gens
def CE (outer : List Env) (P : Program) (w : World) (H : Hp) (s : Shared) (Q : VK) (u : Value) (s' : Shared) : Prop :=
  ∃ v H', s'.os = s.os ∧ AllBare s'.gens ∧ Un (frs outer) [] H H' s.heap s'.heap ∧ HOk P w H' s'.heap ∧ RelV v u ∧ Q v H'
def CR (CX : CXT) (outer : List Env) (P : Program) (w : World) (H : Hp) (s : Shared) (Q : VK) (E : XK) (r : Result) (s' : Shared) : Prop :=
  match r with
  | .ok (.ret u) => CE outer P w H s Q u s'
  | .ok _ => False
  | .error e => CX outer H s E e s'
structure FnOk (P : Program) (w : World) (K : PySem.W.Frag) (mg : Str → Option Value) (base : Heap) (CX : CXT) (k : Nat) (f : Addr) (fd : FuncData) (ps : List Str) (sp : Sp) : Prop where
  len : ∀ vs H Q E, sp vs H Q E → vs.length = ps.length
  run : ∀ (A : Around) (outer : List Env) (s : Shared) (H : Hp) (args : Args) (us : List Value) (vs : List V) (Q : VK) (E : XK), Room k A → Env0 P w K mg base A outer s H → BindsTo s fd args (ps.zip us) → Vals vs us → sp vs H Q E →
    codeAny (model P w) A (.call (.ref f) args) (CR CX outer P w H s Q E) s
theorem FnOk.mono {P : Program} {w : World} {K : PySem.W.Frag} {mg : Str → Option Value} {base : Heap} {CX : CXT} {j k : Nat} {f : Addr} {fd : FuncData} {ps : List Str} {sp : Sp} (F : FnOk P w K mg base CX j f fd ps sp) (h : j ≤ k) :
    FnOk P w K mg base CX k f fd ps sp := ⟨F.len, fun A outer s H args us vs Q E hr => F.run A outer s H args us vs Q E (hr.mono h)⟩
theorem FnOk.imp {P : Program} {w : World} {K : PySem.W.Frag} {mg : Str → Option Value} {base : Heap} {CX : CXT} {k : Nat} {f : Addr} {fd : FuncData} {ps : List Str} {sp sp' : Sp} (F : FnOk P w K mg base CX k f fd ps sp)
    (h : ∀ vs H Q E, sp' vs H Q E → sp vs H Q E) : FnOk P w K mg base CX k f fd ps sp' :=
  ⟨fun vs H Q E q => F.len vs H Q E (h _ _ _ _ q), fun A outer s H args us vs Q E hr he hb hv hs => F.run A outer s H args us vs Q E hr he hb hv (h _ _ _ _ hs)⟩
theorem Env0.make {P : Program} {w : World} {K : PySem.W.Frag} {mg : Str → Option Value} {base : Heap} {A : Around} {outer : List Env} {s : Shared} {H : Hp} (e : Env0 P w K mg base A outer s H) (C : Addr) (us : List Value) (kw : List (Str × Value)) :
    Env0 P w K mg base (A.under (.builtin "type.__call__" ⟨.ref C :: us, kw⟩)) outer s H := ⟨by first | exact e.frames | (simpa [Around.under, Code.envs, Code.isFrame, pushEnvs] using e.frames), e.mod, e.bs, e.bsz, e.funs, e.frf, e.hok, e.bare⟩
theorem Env0.in1 {P : Program} {w : World} {K : PySem.W.Frag} {mg : Str → Option Value} {base : Heap} {A : Around} {outer : List Env} {s : Shared} {H : Hp} (e : Env0 P w K mg base A outer s H) :
    Env0 P w K mg base A.in1 outer s H := ⟨e.frames, e.mod, e.bs, e.bsz, e.funs, e.frf, e.hok, e.bare⟩
section
variable {X : Cx} {pins : List (Addr × Obj)} {σ : St} {H : Hp} {s s' : Shared}
theorem Inv.env0 (I : Inv X pins σ H s) : Env0 X.prog X.w X.K X.mg X.base X.A X.stack s H :=
  ⟨I.ok.frames, I.ok.mod, I.bs, Nat.le_trans I.ok.bsz I.sz, I.stack, I.stkFree, I.hok, I.bare⟩
theorem Inv.after {Q : VK} {u : Value} (I : Inv X pins σ H s) (h : CE X.stack X.prog X.w H s Q u s') : EP X pins σ Q u s' := by
  obtain ⟨v, H', os, bare, un, hok, r, q⟩ := h
  obtain ⟨hh, g, d, t, os'⟩ := s'
  obtain rfl : os' = s.os := os
  exact ⟨v, H', I.call (h' := hh) (g' := g) (d' := d) (t' := t) (ch := []) un hok bare (fun b z => absurd z (by simp)), r, q⟩
end
def tCall (sp : Sp) (dvs : List V) (E : XK) (t : TA) : TE := fun σ H Q => t σ H fun vs H1 => sp (vs ++ dvs) H1 Q E
def tMeth (C : Addr) (m : Str) (sp : Sp) (dvs : List V) (E : XK) (ta : TE) (t : TA) : TE := fun σ H Q => ta σ H fun x H1 => ∃ a dx fs, x = .ref a ∧ H1 a = some (.ins C dx fs) ∧ fs.lookup m = none ∧
  t σ H1 fun vs H2 => sp (x :: (vs ++ dvs)) H2 Q E
def tMake (C : Addr) (sp : Sp) (dvs : List V) (E : XK) (t : TA) : TE := fun σ H Q => t σ H fun vs H1 => ∀ x dx, H1 x = none → H1 dx = none → dx ≠ x →
  sp (.ref x :: (vs ++ dvs)) (upd (upd H1 dx (.own x)) x (.ins C dx [])) (fun v H2 => v = .non ∧ Q (.ref x) H2) E
def Binds (K : PySem.W.Frag) (fd : FuncData) (ps : List Str) (ds : List Value) : Prop :=
  ∀ (s : Shared) (us : List Value), K.In s.heap → (us ++ ds).length = ps.length → BindsTo s fd ⟨us, []⟩ (ps.zip (us ++ ds))
theorem Binds.all {K : PySem.W.Frag} {fd : FuncData} {ps : List Str} (h : ∀ us : List Value, us.length = ps.length → bindArgs fd ⟨us, []⟩ = pure (ps.zip us)) : Binds K fd ps [] := fun s us _ hl => by
  rw [List.append_nil] at hl ⊢
  exact .of_eq (h us hl)
def Passes (CX : CXT) (X : Cx) (E : XK) : Prop := ∀ (pins : List (Addr × Obj)) (σ : St) (H : Hp) (s : Shared) (e : Value) (s' : Shared), Inv X pins σ H s → CX X.stack H s E e s' → X.xe e s'
section
variable {X : Cx} {CX : CXT} {k : Nat} {f C : Addr} {fd : FuncData} {ps : List Str} {sp : Sp} {dvs : List V} {ds : List Value} {E : XK} {x m : Str} {p pos apos : Pos} {e o : Expr} {es : List Expr} {ta : TE} {t : TA}
theorem run_fn {pins : List (Addr × Obj)} {σ : St} {H : Hp} {s : Shared} {Q : VK} {us : List Value} {vs : List V} (F : FnOk X.prog X.w X.K X.mg X.base CX k f fd ps sp) (hr : Room k X.A) (hb : Binds X.K fd ps ds) (hd : Vals dvs ds) (hx : Passes CX X E)
    (I : Inv X pins σ H s) (r : Vals vs us) (h : sp (vs ++ dvs) H Q E) : wpAny (model X.prog X.w) X.A (call (.ref f) us) (EP X pins σ Q) X.xe s := by
  have r2 : Vals (vs ++ dvs) (us ++ ds) := r.append hd
  have hl : (us ++ ds).length = ps.length := by rw [← r2.length]; exact F.len _ _ _ _ h
  refine wpAny_call (codeAny_mono (F.run X.A X.stack s H ⟨us, []⟩ (us ++ ds) (vs ++ dvs) Q E hr I.env0 (hb s us I.kIn hl) r2 h) fun r s' hq => ?_)
  cases r with
  | error e => exact hx pins σ H s e s' I hq
  | ok fl =>
    cases fl with
    | ret u => exact I.after hq
    | next => exact False.elim hq
    | brk => exact False.elim hq
    | cont => exact False.elim hq
theorem pe_call (F : FnOk X.prog X.w X.K X.mg X.base CX k f fd ps sp) (hr : Room k X.A) (hg : Gl X x) (hm : X.mg x = some (.ref f)) (hk : PySem.W.keepIn X.K (.ref f) = true) (hb : Binds X.K fd ps ds) (hd : Vals dvs ds) (hx : Passes CX X E)
    (ha : PA X (e :: es) t) (hdb : (x == ("__debug__" : Str)) = false := by decide) (he : starEach (e :: es) X.env = (false, eval e X.env) :: starEach es X.env := by rfl) (hpl : (backTo pos (starEach es X.env)).any (·.1) = false := by rfl) :
    PE X (.Call (.Name x p) (e :: es) [] pos) (tCall sp dvs E t) := by
  intro pins s σ H Q I h
  refine wpAny_Call_Name_kw (ld_glob I hg hm ?_ hdb)
  refine PySem.W.callWith_K (h₀ := X.base) I.ok.mod.kin hk (thn (ha pos pins s σ H _ I h) fun us s1 ⟨vs, H1, I1, r, q⟩ => ⟨I1.kIn, ?_⟩) he hpl
  exact run_fn F hr hb hd hx I1 r q
theorem pe_meth {pl : Sem Bool} (he : PE X o ta) (c : Cls X.K C) (hm : Meth X.K C m f) (F : FnOk X.prog X.w X.K X.mg X.base CX k f fd ps sp) (hr : Room k X.A) (hb : Binds X.K fd ps ds) (hd : Vals dvs ds) (hx : Passes CX X E) (ha : PA X (e :: es) t)
    (hst : starEach (e :: es) X.env = (false, eval e X.env) :: starEach es X.env := by rfl) (hpl : (backTo pos (starEach es X.env)).any (·.1) = false := by rfl)
    (ht : eval (.Call (.Attribute o m apos) (e :: es) [] pos) X.env = (do
      let ov ← eval o X.env
      standAt apos.atName
      let (f, first) ← holding [ov] (getMethod ov m pl)
      callWith pos f first (backTo pos (starEach (e :: es) X.env)) (backToKw pos (keywordEach [] X.env))) := by rfl) :
    PE X (.Call (.Attribute o m apos) (e :: es) [] pos) (tMeth C m sp dvs E ta t) := by
  intro pins s σ H Q I h
  refine PySem.W.methodCall_KW (pl := pl) (thn (he pins s σ H _ I h) fun u s1 ⟨x, H1, I1, rx, a, dx, fs, ex, ea, l, q⟩ => ?_) ht
  subst ex
  obtain rfl : u = Value.ref a := rx
  refine getmeth_ok I1 ea c hm l ?_
  refine PySem.W.callWith_K (first := [.ref a]) (h₀ := X.base) I.ok.mod.kin hm.kp (thn (ha pos pins s1 σ H1 _ I1 q) fun us s2 ⟨vs, H2, I2, r, q2⟩ => ⟨I2.kIn, ?_⟩) hst hpl
  exact run_fn (us := .ref a :: us) (vs := .ref a :: vs) F hr hb hd hx I2 (.cons rfl r) q2
theorem pe_meth0 {pl : Sem Bool} (he : PE X o ta) (c : Cls X.K C) (hm : Meth X.K C m f) (F : FnOk X.prog X.w X.K X.mg X.base CX k f fd ps sp) (hr : Room k X.A) (hb : Binds X.K fd ps ds) (hd : Vals dvs ds) (hx : Passes CX X E)
    (ht : eval (.Call (.Attribute o m apos) [] [] pos) X.env = (do
      let ov ← eval o X.env
      standAt apos.atName
      let (f, first) ← holding [ov] (getMethod ov m pl)
      callWith pos f first (backTo pos (starEach [] X.env)) (backToKw pos (keywordEach [] X.env))) := by rfl) :
    PE X (.Call (.Attribute o m apos) [] [] pos) (tMeth C m sp dvs E ta tNil) := by
  intro pins s σ H Q I h
  refine PySem.W.methodCall_KW (pl := pl) (thn (he pins s σ H _ I h) fun u s1 ⟨x, H1, I1, rx, a, dx, fs, ex, ea, l, q⟩ => ?_) ht
  subst ex
  obtain rfl : u = Value.ref a := rx
  refine getmeth_ok I1 ea c hm l ?_
  exact PySem.W.callWith_K0 (first := [.ref a]) I1.kIn hm.kp (run_fn (us := [.ref a]) (vs := [.ref a]) F hr hb hd hx I1 (.cons rfl .nil) q)
structure Mk (K : PySem.W.Frag) (C f : Addr) : Prop where
  makes : PySem.W.makesIn K C = true
  init : PySem.W.findIn K (.ref C) "__init__" = some (some (.ref f))
  fn : PySem.W.isFn K (.ref f) = true
  kp : PySem.W.keepIn K (.ref C) = true
theorem run_make {pins : List (Addr × Obj)} {σ : St} {H : Hp} {s : Shared} {Q : VK} {us : List Value} {vs : List V} (M : Mk X.K C f) (F : FnOk X.prog X.w X.K X.mg X.base CX k f fd ps sp) (hr : Room (k + 1) X.A) (hb : Binds X.K fd ps ds) (hd : Vals dvs ds)
    (hx : Passes CX X E) (I : Inv X pins σ H s) (r : Vals vs us)
    (h : ∀ x dx, H x = none → H dx = none → dx ≠ x → sp (.ref x :: (vs ++ dvs)) (upd (upd H dx (.own x)) x (.ins C dx [])) (fun v H2 => v = .non ∧ Q (.ref x) H2) E) :
    wpAny (model X.prog X.w) X.A (call (.ref C) us) (EP X pins σ Q) X.xe s := by
  have hq := h (s.heap.objs.size + 1) s.heap.objs.size (I.hok.fresh (Nat.le_succ _)) (I.hok.fresh (Nat.le_refl _)) (Nat.ne_of_lt (Nat.lt_succ_self _))
  have I2 := Inv.made (C := C) I
  have r2 : Vals (V.ref (s.heap.objs.size + 1) :: (vs ++ dvs)) (Value.ref (s.heap.objs.size + 1) :: (us ++ ds)) := .cons rfl (r.append hd)
  have hl : (Value.ref (s.heap.objs.size + 1) :: us ++ ds).length = ps.length := by
    have e := r2.length
    rw [F.len _ _ _ _ hq] at e
    exact e.symm
  refine wpAny_call (make_map (f := f) I.kIn M.makes M.init (beq_iff_eq.mp M.fn) (codeAny_mono (F.run _ X.stack _ _ ⟨Value.ref (s.heap.objs.size + 1) :: us, []⟩ (Value.ref (s.heap.objs.size + 1) :: (us ++ ds)) _ _ E (hr.make C us [])
    (I2.env0.make C us []) (hb _ (Value.ref (s.heap.objs.size + 1) :: us) I2.kIn hl) r2 hq) fun r s' hq' => ?_))
  cases r with
  | error e => exact hx pins σ _ _ e s' I2 hq'
  | ok fl =>
    cases fl with
    | ret u =>
      obtain ⟨v, H', I3, rv, ev, q3⟩ := I2.after hq'
      subst ev
      exact ⟨rv, ⟨V.ref (s.heap.objs.size + 1), H', I3, rfl, q3⟩⟩
    | next => exact False.elim hq'
    | brk => exact False.elim hq'
    | cont => exact False.elim hq'
theorem pe_make (M : Mk X.K C f) (F : FnOk X.prog X.w X.K X.mg X.base CX k f fd ps sp) (hr : Room (k + 1) X.A) (hg : Gl X x) (hm : X.mg x = some (.ref C)) (hb : Binds X.K fd ps ds) (hd : Vals dvs ds) (hx : Passes CX X E)
    (ha : PA X (e :: es) t) (hdb : (x == ("__debug__" : Str)) = false := by decide) (he : starEach (e :: es) X.env = (false, eval e X.env) :: starEach es X.env := by rfl) (hpl : (backTo pos (starEach es X.env)).any (·.1) = false := by rfl) :
    PE X (.Call (.Name x p) (e :: es) [] pos) (tMake C sp dvs E t) := by
  intro pins s σ H Q I h
  refine wpAny_Call_Name_kw (ld_glob I hg hm ?_ hdb)
  refine PySem.W.callWith_K (h₀ := X.base) I.ok.mod.kin M.kp (thn (ha pos pins s σ H _ I h) fun us s1 ⟨vs, H1, I1, r, q⟩ => ⟨I1.kIn, ?_⟩) he hpl
  exact run_make M F hr hb hd hx I1 r q
theorem pe_make0 (M : Mk X.K C f) (F : FnOk X.prog X.w X.K X.mg X.base CX k f fd ps sp) (hr : Room (k + 1) X.A) (hg : Gl X x) (hm : X.mg x = some (.ref C)) (hb : Binds X.K fd ps ds) (hd : Vals dvs ds) (hx : Passes CX X E)
    (hdb : (x == ("__debug__" : Str)) = false := by decide) : PE X (.Call (.Name x p) [] [] pos) (tMake C sp dvs E tNil) := by
  intro pins s σ H Q I h
  refine wpAny_Call_Name_kw (ld_glob I hg hm ?_ hdb)
  exact PySem.W.callWith_K0 I.kIn M.kp (run_make (us := []) M F hr hb hd hx I .nil h)
end
structure FnScope (N P : List Str) (sc : Scope) : Prop where
  kind : sc.kind = .function
  co : sc.isCoroutine = false
  gen : sc.isGenerator = false
  nd : N.Nodup
  pre : N.take P.length = P
  par : ∀ x ∈ P, sc.names.lookup x = some .local ∨ sc.names.lookup x = some .cell
  nofree : ∀ y ∈ sc.names, y.2 ≠ .free
theorem bindL_out {kindOf : Str → Option NameKind} {x : Str} : ∀ {binds : List (Str × Value)} {m : Str → Option Value}, (∀ v, (x, v) ∉ binds) → bindL kindOf binds m x = m x
  | [], _, _ => rfl
  | (n, v) :: r, m, h => by
    unfold bindL
    rw [bindL_out fun w hw => h w (List.mem_cons_of_mem _ hw)]
    split
    · have : x ≠ n := by rintro rfl; exact h v List.mem_cons_self
      simp [this]
    · rfl
theorem bindC_out {kindOf : Str → Option NameKind} {x : Str} : ∀ {binds : List (Str × Value)} {m : Str → Option Value}, (∀ v, (x, v) ∉ binds) → bindC kindOf binds m x = m x
  | [], _, _ => rfl
  | (n, v) :: r, m, h => by
    unfold bindC
    rw [bindC_out fun w hw => h w (List.mem_cons_of_mem _ hw)]
    split
    · rfl
    · have : x ≠ n := by rintro rfl; exact h v List.mem_cons_self
      simp [this]
theorem bindL_get {kindOf : Str → Option NameKind} {x : Str} {v : Value} : ∀ {P : List Str} {vs : List Value} {i : Nat} {m : Str → Option Value}, P.Nodup → P[i]? = some x → vs[i]? = some v → kindOf x = some .local →
    bindL kindOf (P.zip vs) m x = some v
  | [], _, _, _, _, h, _, _ => by simp at h
  | _ :: _, [], _, _, _, _, h, _ => by simp at h
  | p :: P, w :: vs, 0, m, nd, h1, h2, hk => by
    simp at h1 h2; subst h1; subst h2
    show bindL kindOf ((p, w) :: P.zip vs) m p = _
    unfold bindL
    rw [bindL_out fun v hv => (List.nodup_cons.mp nd).1 (List.of_mem_zip hv).1, if_pos hk]
    simp
  | p :: P, w :: vs, i + 1, m, nd, h1, h2, hk => by
    show bindL kindOf ((p, w) :: P.zip vs) m x = _
    unfold bindL
    exact bindL_get (i := i) (List.nodup_cons.mp nd).2 (by simpa using h1) (by simpa using h2) hk
theorem bindC_get {kindOf : Str → Option NameKind} {x : Str} {v : Value} : ∀ {P : List Str} {vs : List Value} {i : Nat} {m : Str → Option Value}, P.Nodup → P[i]? = some x → vs[i]? = some v → kindOf x ≠ some .local →
    bindC kindOf (P.zip vs) m x = some v
  | [], _, _, _, _, h, _, _ => by simp at h
  | _ :: _, [], _, _, _, _, h, _ => by simp at h
  | p :: P, w :: vs, 0, m, nd, h1, h2, hk => by
    simp at h1 h2; subst h1; subst h2
    show bindC kindOf ((p, w) :: P.zip vs) m p = _
    unfold bindC
    rw [bindC_out fun v hv => (List.nodup_cons.mp nd).1 (List.of_mem_zip hv).1, if_neg hk]
    simp
  | p :: P, w :: vs, i + 1, m, nd, h1, h2, hk => by
    show bindC kindOf ((p, w) :: P.zip vs) m x = _
    unfold bindC
    exact bindC_get (i := i) (List.nodup_cons.mp nd).2 (by simpa using h1) (by simpa using h2) hk
def start (N : List Str) (vs : List V) : St := vs.map some ++ List.replicate (N.length - vs.length) none
def cxOf (CX : CXT) (P : Program) (w : World) (K : PySem.W.Frag) (mg : Str → Option Value) (base : Heap) (N : List Str) (qual : Str) (scope : Scope) (f : Addr) (cd : Value) (A : Around) (outer : List Env) (s : Shared) (H : Hp) (E : XK) : Cx where
  prog := P
  w := w
  K := K
  mg := mg
  base := base
  A := A.deeper (envOfC qual scope s.heap.objs.size f cd)
  N := N
  s_0 := s
  H_0 := H
  env := envOfC qual scope s.heap.objs.size f cd
  outer := outer
  stack := envOfC qual scope s.heap.objs.size f cd :: outer
  ex := []
  calm := true
  fn := fun _ => true
  pn := []
  xe := fun e s' => wpAny (model P w) (A.deeper (envOfC qual scope s.heap.objs.size f cd)) (leaving (envOfC qual scope s.heap.objs.size f cd) e) (fun _ s'' => CX outer H s E e s'') (fun e' s'' => CX outer H s E e' s'') s'
theorem cell_has {sc : Scope} {n : Nat} {x : Str} (h : sc.names.lookup x = some .cell) : ∃ c, (cellsFrom n sc.names []).lookup x = some c := by
  have q := PySem.W.cellsFrom_some sc.names n [] (.inl h)
  exact Option.isSome_iff_exists.mp q
theorem inv_start {CX : CXT} {P : Program} {w : World} {K : PySem.W.Frag} {mg : Str → Option Value} {base : Heap} {N ps : List Str} {qual : Str} {scope : Scope} {f : Addr} {cd : Value} {A : Around} {outer : List Env} {s s1 : Shared} {H : Hp} {E : XK} {us : List Value} {vs : List V}
    (S : FnScope N ps scope) (hd : A.handled = none) (e0 : Env0 P w K mg base A outer s H) (hl : vs.length = ps.length) (r : Vals vs us)
    (x : InCallC s s.heap.objs.size (bindL (envOfC qual scope s.heap.objs.size f cd).kindOf (ps.zip us) fun _ => none) (cellsFrom (s.heap.objs.size + 1) scope.names []) (bindC (envOfC qual scope s.heap.objs.size f cd).kindOf (ps.zip us) fun _ => none) s1) :
    Inv (cxOf CX P w K mg base N qual scope f cd A outer s H E) [] (start N vs) H s1 := by
  have hpl : ps.length ≤ N.length := by have := congrArg List.length S.pre; rw [List.length_take] at this; omega
  obtain ⟨h1, tk, rfl, hk⟩ := x.done
  have noA : ∀ b : Addr, b ∉ (cxOf CX P w K mg base N qual scope f cd A outer s H E).ex := fun b z => absurd (show b ∈ ([] : List Addr) from z) (by simp)
  refine ⟨⟨e0.mod, S.kind, rfl, rfl, Nat.le_refl _, fun y z c h1 h2 => ?_, fun y hy => ?_, fun y c _ h => ?_, fun _ => hd, Around.frames_deeper e0.frames, .inr ⟨rfl, rfl⟩, fun b z => absurd z (noA b), e0.bs, e0.bsz, fun b _ _ => noA b, fun b z => absurd z (noA b), e0.funs, e0.frf⟩,
    rfl, e0.bare, Un.kept hk, ⟨_, x.toInCall.ns, fun i y v h1 h2 h3 => ?_⟩, fun y c h => ⟨_, x.cell y c h⟩, e0.hok.fresh (Nat.le_refl _), fun y c h => ?_, fun p hp => absurd (show p ∈ ([] : List (Addr × Obj)) from hp) (by simp), e0.hok.kept hk, ?_⟩
  · exact name_of_addr x.apart (PySem.mem_of_lookup h1) (PySem.mem_of_lookup h2)
  · have hy : scope.names.lookup y = some .cell ∨ scope.names.lookup y = some .free := hy
    rcases hy with hy | hy
    · exact cell_has hy
    · exact absurd rfl (S.nofree _ (PySem.mem_of_lookup hy))
  · exact Nat.le_of_lt (x.above y c (PySem.mem_of_lookup h))
  · have hi : i < vs.length := by
      unfold start at h2
      by_cases hi : i < vs.length
      · exact hi
      · rw [List.getElem?_append_right (by simpa using hi)] at h2
        rw [List.getElem?_replicate] at h2
        split at h2 <;> cases h2
    have ha : vs[i]? = some v := by
      unfold start at h2
      rw [List.getElem?_append_left (by simpa using hi), List.getElem?_map] at h2
      cases e : vs[i]? with
      | none => rw [e] at h2; cases h2
      | some a => rw [e] at h2; cases h2; rfl
    obtain ⟨u, hu, rv⟩ := r.get ha
    have hp : ps[i]? = some y := by
      rw [← S.pre, List.getElem?_take_of_lt (by omega)]; exact h1
    have ndP : ps.Nodup := by rw [← S.pre]; exact S.nd.sublist (List.take_sublist _ _)
    refine ⟨u, rv, ?_⟩
    rcases S.par y (List.mem_of_getElem? hp) with k | k
    · exact .inl ⟨k, bindL_get ndP hp hu k⟩
    · obtain ⟨c, e⟩ := cell_has (n := s.heap.objs.size + 1) k
      refine .inr ⟨.inl k, c, e, ?_⟩
      have q := x.cell y c e
      rw [bindC_get ndP hp hu (by show scope.names.lookup y ≠ _; rw [k]; decide)] at q
      exact q
  · exact e0.hok.fresh (Nat.le_of_lt (x.above y c (PySem.mem_of_lookup h)))
  · unfold start
    show _ = N.length
    rw [List.length_append, List.length_map, List.length_replicate]
    omega
theorem fn_of {CX : CXT} {P : Program} {w : World} {K : PySem.W.Frag} {mg : Str → Option Value} {base : Heap} {k : Nat} {f : Addr} {name qual : Str} {params : Arguments} {body : List Stmt} {scope : Scope} {dV kV doc pm cdv ct oc : Value} {an od : Option Addr}
    {osl : Array (Option Value)} {N ps : List Str} {sp : Sp} (lk : K.lookup f = some ⟨oc, od, .func (PySem.W.fnOf name qual params body scope dV kV doc pm an cdv ct), osl⟩) (hcd : PySem.W.codeIn K cdv qual = true) (S : FnScope N ps scope)
    (len : ∀ vs H Q E, sp vs H Q E → vs.length = ps.length)
    (hbody : ∀ (A : Around) (outer : List Env) (s : Shared) (H : Hp) (vs : List V) (Q : VK) (E : XK), Room k (A.deeper (envOfC qual scope s.heap.objs.size f cdv)) → sp vs H Q E →
      ∃ t, PSs (cxOf CX P w K mg base N qual scope f cdv A outer s H E) body t ∧ t { nx := fun _ H' => Q .non H', rt := Q } (start N vs) H) :
    FnOk P w K mg base CX (k + 1) f (PySem.W.fnOf name qual params body scope dV kV doc pm an cdv ct) ps sp := by
  refine ⟨len, fun A outer s H args us vs Q E hr e0 hb r hsp => ?_⟩
  have hl := len _ _ _ _ hsp
  have KX : K.In s.heap := e0.mod.kin.keeps fun b o e => (e0.bs b o e).1
  have lim : s.heap.NoLimit := e0.mod.nolimit.keeps fun b o e => (e0.bs b o e).1
  have hkind : ∀ y ∈ ps.zip us, scope.names.lookup y.1 = some .local ∨ (scope.names.lookup y.1 = some .cell ∧ ((cellsFrom (s.heap.objs.size + 1) scope.names []).lookup y.1).isSome = true) := fun ⟨n, v⟩ hy => by
    rcases S.par n (List.of_mem_zip hy).1 with q | q
    · exact .inl q
    · exact .inr ⟨q, PySem.W.cellsFrom_some _ _ _ (.inl q)⟩
  refine codeAny_call_function hr.depth (KX _ _ lk) rfl S.co S.gen rfl (PySem.W.codeRec_of KX hcd) (hb _ _ _ _ ?_)
  refine wpAny_newFunctionEnv_cells S.kind hkind fun env he s1 x => ?_
  subst he
  refine ⟨lim.keeps x.toInCall.keep, codeAny_func ?_⟩
  obtain ⟨t, ht, hq⟩ := hbody A outer s H vs Q E (hr.deeper _) hsp
  have I : Inv (cxOf CX P w K mg base N qual scope f cdv A outer s H E) [] (start N vs) H s1 := inv_start S hr.hd e0 hl r x
  refine wpAny_mono (ht [] s1 (start N vs) H _ I hq) (fun fl s' hs => ?_) fun e s' hs => hs
  have fin : ∀ {σ' : St} {H' : Hp} {v : V} {u : Value}, Inv (cxOf CX P w K mg base N qual scope f cdv A outer s H E) [] σ' H' s' → RelV v u → Q v H' → CE outer P w H s Q u s' :=
    fun {σ' H' v u} J rv q => ⟨v, H', J.os, J.bare, J.base, J.hok, rv, q⟩
  cases fl with
  | ret u =>
    obtain ⟨v, σ', H', J, rv, q⟩ := hs
    exact fin J rv q
  | next =>
    obtain ⟨σ', H', J, q⟩ := hs
    exact fin (v := V.non) (u := Value.none) J rfl q
  | brk =>
    obtain ⟨_, _, _, q⟩ := hs
    exact False.elim q
  | cont =>
    obtain ⟨_, _, _, q⟩ := hs
    exact False.elim q
end L2
namespace L2
open PySem PySem.Spec PyProof.Rows
section
variable {X : Cx} {x : Str} {p pos : Pos} {e : Expr} {es : List Expr} {t : TA} {id T : String} {r : List V → Hp → VK → Prop}
def tCB (r : List V → Hp → VK → Prop) (t : TA) : TE := fun σ H Q => t σ H fun vs H1 => r vs H1 Q
theorem pe_callB (hc : CallR X (.builtin id) r) (hg : Gl X x) (hm : X.mg x = none) (hv : bootBuiltins x = some (.builtin id)) (ha : PA X (e :: es) t) (hn : x ≠ "__name__" := by decide) (hdb : (x == ("__debug__" : Str)) = false := by decide)
    (he : starEach (e :: es) X.env = (false, eval e X.env) :: starEach es X.env := by rfl) (hpl : (backTo pos (starEach es X.env)).any (·.1) = false := by rfl) : PE X (.Call (.Name x p) (e :: es) [] pos) (tCB r t) := by
  intro pins s σ H Q I h
  refine wpAny_Call_Name_kw (ld_blt I hg hm hv ?_ hn hdb)
  exact PyProof.Rows.callWith_builtin1 (thn (ha pos pins s σ H _ I h) fun us s1 ⟨vs, H1, I1, r1, q1⟩ => hc pins s1 σ H1 vs us Q I1 r1 q1) he hpl
theorem pe_callTy (hc : CallR X (.type T) r) (hg : Gl X x) (hm : X.mg x = none) (hv : bootBuiltins x = some (.type T)) (ha : PA X (e :: es) t) (hn : x ≠ "__name__" := by decide) (hdb : (x == ("__debug__" : Str)) = false := by decide)
    (he : starEach (e :: es) X.env = (false, eval e X.env) :: starEach es X.env := by rfl) (hpl : (backTo pos (starEach es X.env)).any (·.1) = false := by rfl) : PE X (.Call (.Name x p) (e :: es) [] pos) (tCB r t) := by
  intro pins s σ H Q I h
  refine wpAny_Call_Name_kw (ld_blt I hg hm hv ?_ hn hdb)
  exact PyProof.Rows.callWith_type1 (thn (ha pos pins s σ H _ I h) fun us s1 ⟨vs, H1, I1, r1, q1⟩ => hc pins s1 σ H1 vs us Q I1 r1 q1) he hpl
end
end L2
namespace HT
open PySem PyProof.Rows
section
variable {prog : Program} {w : World} {A : Around} {E : Value → Shared → Prop} {s : Shared}
def sIx (n d : Nat) : Option Int → Nat
  | none => d
  | some v => if v < 0 then (v + (n : Int)).toNat else min v.toNat n
end
end HT
namespace L2
open PySem PySem.Spec PyProof.Rows
abbrev TO := St → Hp → (Option Int → Hp → Prop) → Prop
def PO (X : Cx) (e : Option Expr) (t : TO) : Prop :=
  ∀ (pins : List (Addr × Obj)) (s : Shared) (σ : St) (H : Hp) (Q : Option Int → Hp → Prop), Inv X pins σ H s → t σ H Q →
    wpAny (model X.prog X.w) X.A (evalPart e X.env) (fun u s' => ∃ o H', Inv X pins σ H' s' ∧ IsPart u o ∧ Q o H') X.xe s
def tNoPart : TO := fun _ H Q => Q none H
def tPart (t : TE) : TO := fun σ H Q => t σ H fun x H1 => ∃ i, x = .int i ∧ Q (some i) H1
section
variable {X : Cx} {e : Expr} {te : TE} {lo hi : Option Expr} {tl th : TO} {pos p2 : Pos}
theorem po_none : PO X none tNoPart := by
  intro pins s σ H Q I h
  rw [evalPart_none]
  exact wpAny_pure ⟨none, H, I, .none, h⟩
theorem po_some (h : PE X e te) : PO X (some e) (tPart te) := by
  intro pins s σ H Q I hw
  rw [evalPart_some]
  refine thn (h pins s σ H _ I hw) fun u s1 ⟨x, H1, I1, r1, q1⟩ => ?_
  obtain ⟨i, rfl, q⟩ := q1
  obtain ⟨t, rfl⟩ := r1
  exact ⟨some i, H1, I1, .int i t, q⟩
def SlR (X : Cx) (r : V → Option Int → Option Int → Hp → VK → Prop) : Prop :=
  ∀ (pins : List (Addr × Obj)) (s : Shared) (σ : St) (H : Hp) (x : V) (v vl vu : Value) (lo hi : Option Int) (sl : Addr) (Q : VK), Inv X pins σ H s → RelV x v → s.heap.IsSliceOf sl vl vu .none → IsPart vl lo → IsPart vu hi → r x lo hi H Q →
    ∃ T id, typeLookup (.type T) "__getitem__" = pure (some (.builtin id)) ∧ s.TypeIs v T ∧ wpAny (model X.prog X.w) X.A (getItem v (.ref sl)) (EP X pins σ Q) X.xe s
def tSl (r : V → Option Int → Option Int → Hp → VK → Prop) (te : TE) (tl th : TO) : TE := fun σ H Q => te σ H fun x H1 => tl σ H1 fun l H2 => th σ H2 fun u H3 => r x l u H3 Q
theorem pe_slice {r : V → Option Int → Option Int → Hp → VK → Prop} (hr : SlR X r) (he : PE X e te) (hl : PO X lo tl) (hu : PO X hi th) : PE X (.Subscript e (.Slice lo hi none p2) pos) (tSl r te tl th) := by
  intro pins s σ H Q I h
  refine Subscript_ (thn (he pins s σ H _ I h) fun v s1 ⟨x, H1, I1, r1, q1⟩ => ?_)
  refine wpAny_Slice (thn (hl pins s1 σ H1 _ I1 q1) fun vl s2 ⟨l, H2, I2, pl, q2⟩ => thn (hu pins s2 σ H2 _ I2 q2) fun vu s3 ⟨u, H3, I3, pu, q3⟩ => ?_)
  rw [evalPart_none]
  refine wpAny_pure ?_
  have I4 : Inv X pins σ H3 { s3 with heap := s3.heap.push { cls := .type "slice", data := .fields #[vl, vu, .none] } } := I3.kept (t' := s3.toks) fun b ob q => Heap.get?_push_of_some _ q
  obtain ⟨T, id, hT, ht, hg⟩ := hr pins { s3 with heap := s3.heap.push { cls := .type "slice", data := .fields #[vl, vu, .none] } } σ H3 x v vl vu l u s3.heap.objs.size Q I4 r1 (Heap.IsSliceOf.new ..) pl pu q3
  show wpAny (model X.prog X.w) X.A (subscriptTail e (.Slice lo hi none p2) v (.ref s3.heap.objs.size)) (EP X pins σ Q) X.xe { s3 with heap := s3.heap.push { cls := .type "slice", data := .fields #[vl, vu, .none] } }
  exact tail_any (ops := [.ref s3.heap.objs.size, v]) ht hT hg (by with_unfolding_all rfl)
def cutV (xs : List V) (lo hi : Option Int) : List V := (xs.drop (HT.sIx xs.length 0 lo)).take (HT.sIx xs.length xs.length hi - HT.sIx xs.length 0 lo)
theorem cutV_length (xs : List V) (lo hi : Option Int) : (cutV xs lo hi).length ≤ xs.length := by
  unfold cutV
  rw [List.length_take, List.length_drop]
  omega
end
end L2
namespace L2
open PySem PySem.Spec PyProof.Rows
def ixN (n : Nat) (i : Int) : Option Nat := if 0 ≤ i then (if i < n then some i.toNat else none) else if -(n : Int) ≤ i then some (i + n).toNat else none
def atI {α : Type} (xs : List α) (i : Int) : Option α := (ixN xs.length i).bind fun j => xs[j]?
theorem ixN_seq {n : Nat} {i : Int} {j : Nat} (h : ixN n i = some j) : seqIndex? i n = some j ∧ j < n ∧ -(n : Int) ≤ i ∧ i < n := by
  unfold ixN at h
  by_cases h0 : 0 ≤ i
  · rw [if_pos h0] at h
    by_cases h1 : i < n
    · rw [if_pos h1] at h
      have e : i.toNat = j := Option.some.inj h
      exact ⟨by rw [seqIndex_of h0 h1, e], by omega, by omega, h1⟩
    · rw [if_neg h1] at h; cases h
  · rw [if_neg h0] at h
    by_cases h1 : -(n : Int) ≤ i
    · rw [if_pos h1] at h
      have e : (i + n).toNat = j := Option.some.inj h
      exact ⟨by rw [seqIndex_neg (by omega) h1, e], by omega, h1, by omega⟩
    · rw [if_neg h1] at h; cases h
theorem atI_get {α : Type} {xs : List α} {i : Int} {v : α} (h : atI xs i = some v) : ∃ j, seqIndex? i xs.length = some j ∧ xs[j]? = some v ∧ j < xs.length ∧ -(xs.length : Int) ≤ i ∧ i < xs.length := by
  unfold atI at h
  cases e : ixN xs.length i with
  | none => rw [e] at h; cases h
  | some j =>
    rw [e] at h
    obtain ⟨h1, h2, h3, h4⟩ := ixN_seq e
    exact ⟨j, h1, h, h2, h3, h4⟩
theorem atI_nat {α : Type} {xs : List α} {j : Nat} {v : α} (h : xs[j]? = some v) : atI xs (j : Int) = some v := by
  have hj : j < xs.length := (List.getElem?_eq_some_iff.mp h).1
  have e : ixN xs.length (j : Int) = some j := by
    unfold ixN
    rw [if_pos (by omega), if_pos (by omega)]; simp
  unfold atI; rw [e]; exact h
theorem atI_last {α : Type} (xs : List α) (v : α) : atI (xs ++ [v]) (-1) = some v := by
  have hl : (xs ++ [v]).length = xs.length + 1 := by simp
  have e : ixN (xs ++ [v]).length (-1) = some xs.length := by
    unfold ixN
    rw [hl, if_neg (by decide), if_pos (by omega)]
    congr 1
    omega
  unfold atI
  rw [e]
  show (xs ++ [v])[xs.length]? = some v
  simp
def PlainIx (b : Expr) : Prop := ∀ o i, subscripted b false o i = operate [o, i] (getItem o i)
def IxR (X : Cx) (r : R2) : Prop :=
  ∀ (value slice : Expr) (pins : List (Addr × Obj)) (s : Shared) (σ : St) (H : Hp) (x y : V) (v u : Value) (Q : VK), Inv X pins σ H s → RelV x v → RelV y u → r x y H Q →
    subscripted slice false v u = operate [v, u] (getItem v u) → wpAny (model X.prog X.w) X.A (subscriptTail value slice v u) (EP X pins σ Q) X.xe s
def MtR (X : Cx) (id : String) (r : V → List V → Hp → VK → Prop) : Prop :=
  ∀ (pins : List (Addr × Obj)) (s : Shared) (σ : St) (H : Hp) (x : V) (xs : List V) (v : Value) (us : List Value) (Q : VK), Inv X pins σ H s → RelV x v → Vals xs us → r x xs H Q →
    wpAny (model X.prog X.w) X.A (call (.builtin id) (v :: us)) (EP X pins σ Q) X.xe s
section
variable {X : Cx} {a b : Expr} {ta tb : TE} {pos : Pos}
theorem pe_ix {r : R2} (hr : IxR X r) (ha : PE X a ta) (hb : PE X b tb) (hs : PlainIx b) : PE X (.Subscript a b pos) (tOp r ta tb) := by
  intro pins s σ H Q I h
  exact Subscript_ (binT ha hb I h fun v u s2 x y H2 I2 rx ry q => hr a b pins s2 σ H2 x y v u Q I2 rx ry q (hs _ _))
def rIxL (K : PySem.W.Frag) : R2 := fun x y H Q => ∃ p xs i v, x = .ref p ∧ y = .int i ∧ SqL K H p xs ∧ atI xs i = some v ∧ Q v H
def rIxT (K : PySem.W.Frag) : R2 := fun x y H Q => ∃ p xs i v, x = .ref p ∧ y = .int i ∧ SqT K H p xs ∧ atI xs i = some v ∧ Q v H
theorem ix_list : IxR X (rIxL X.K) := by
  intro value slice pins s σ H x y v u Q I rx ry h hs
  obtain ⟨p, xs, i, z, rfl, rfl, hq, he, q⟩ := h
  cases rx
  obtain ⟨t, rfl⟩ := ry
  obtain ⟨its, r, pl, hz⟩ := I.list hq
  obtain ⟨j, h1, h2, h3, h4, h5⟩ := atI_get he
  obtain ⟨w, ew, rw'⟩ := r.get h2
  have hl := r.length
  have hn := line63
  have fin : EP X pins σ Q w s := ⟨z, H, I, rw', q⟩
  by_cases h0 : 0 ≤ i
  · have hj : i.toNat = j := by
      rw [seqIndex_of h0 h5] at h1
      exact Option.some.inj h1
    exact item_listR pl.isList h0 (by omega) (by rw [hj]; simpa using ew) fin hs
  · have hj : (i + (its.toArray.size : Int)).toNat = j := by
      rw [seqIndex_neg (by omega) h4] at h1
      rw [List.size_toArray, ← hl]
      exact Option.some.inj h1
    exact subscriptTail_builtinR (x := w) pl.isList.typeIs slot_list_getitem.lookup
      (wpAny_getItem_list_neg (Q := fun r s' => r = w ∧ EP X pins σ Q r s') pl.isList (by omega) (by rw [List.size_toArray] <;> omega) (by omega) (by rw [hj]; simpa using ew) ⟨rfl, fin⟩) hs
theorem ix_tup : IxR X (rIxT X.K) := by
  intro value slice pins s σ H x y v u Q I rx ry h hs
  obtain ⟨p, xs, i, z, rfl, rfl, hq, he, q⟩ := h
  cases rx
  obtain ⟨t, rfl⟩ := ry
  obtain ⟨its, r, pl, hz⟩ := I.tuple hq
  obtain ⟨j, h1, h2, h3, h4, h5⟩ := atI_get he
  obtain ⟨w, ew, rw'⟩ := r.get h2
  have hl := r.length
  have hn := line63
  have fin : EP X pins σ Q w s := ⟨z, H, I, rw', q⟩
  exact subscriptTail_builtinR (x := w) pl.typeIs slot_tuple_getitem.lookup
    (getItem_tuple (j := j) (Q := fun r s' => r = w ∧ EP X pins σ Q r s') pl (by omega) (by omega) (by rw [List.size_toArray, ← hl]; exact h1) (by simpa using ew) ⟨rfl, fin⟩) hs
theorem mapSeq_set (its : List Value) (n j : Nat) (u : Value) : Obj.mapSeq (·.setIfInBounds j u) { cls := .type "list", data := .seq its.toArray n } = { cls := .type "list", data := .seq (its.set j u).toArray n } := by
  simp [Obj.mapSeq]
theorem Inv.lst {pins : List (Addr × Obj)} {σ : St} {H : Hp} {s : Shared} {p : Addr} {xs : List V} (I : Inv X pins σ H s) (h : H p = some (.lst xs)) :
    ∃ (its : List Value) (n : Nat), Vals xs its ∧ s.heap.get? p = some { cls := .type "list", data := .seq its.toArray n } ∧ xs.length ≤ sizeLine := by
  obtain ⟨z, its, n, r, e⟩ := I.hok p _ h
  exact ⟨its, n, r, e, z⟩
theorem Inv.lstUpd {pins : List (Addr × Obj)} {σ : St} {H : Hp} {s : Shared} {p : Addr} {xs ys : List V} {its its' : List Value} {n n' : Nat} {f : Obj → Obj} (I : Inv X pins σ H s) (h : H p = some (.lst xs))
    (ho : s.heap.get? p = some { cls := .type "list", data := .seq its.toArray n }) (hf : f { cls := .type "list", data := .seq its.toArray n } = { cls := .type "list", data := .seq its'.toArray n' }) (r : Vals ys its') (hz : ys.length ≤ sizeLine) (t : Nat) :
    Inv X pins σ (upd H p (.lst ys)) { s with heap := s.heap.update p f, toks := t } := by
  have e : (s.heap.update p f).get? p = some { cls := .type "list", data := .seq its'.toArray n' } := by
    rw [Heap.get?_update_self f ho (by rw [hf] <;> rfl), hf]
  refine I.write (x := p) (e := p) (by rw [h]; trivial) (.inl rfl) (fun b u hb q => (Heap.get?_update_other _ _ (Ne.symm hb)).trans q) ⟨_, e⟩ ?_
  exact ⟨hz, its', n', r, e⟩
def rSetL : V → V → V → Hp → (Hp → Prop) → Prop := fun o i v H Q => ∃ p xs k j, o = .ref p ∧ i = .int k ∧ H p = some (.lst xs) ∧ ixN xs.length k = some j ∧ Q (upd H p (.lst (xs.set j v)))
theorem set_list : PSet X rSetL := by
  intro pins s σ H o i v ov iv u Q I ro ri rv h
  obtain ⟨p, xs, k, j, rfl, rfl, hp, hj, q⟩ := h
  cases ro
  obtain ⟨t, rfl⟩ := ri
  obtain ⟨its, n, r, ho, hz⟩ := I.lst hp
  obtain ⟨h1, h2, h3, h4⟩ := ixN_seq hj
  have hl := r.length
  have hn := line63
  have I' : Inv X pins σ (upd H p (.lst (xs.set j v))) { s with heap := s.heap.update p (Obj.mapSeq (·.setIfInBounds j u)) } :=
    I.lstUpd hp ho (mapSeq_set its n j u) (r.set rv j) (by rw [List.length_set]; exact hz) s.toks
  by_cases h0 : 0 ≤ k
  · have hk : k.toNat = j := by
      rw [seqIndex_of h0 h4] at h1
      exact Option.some.inj h1
    exact PySem.W.ki_setAt ho h0 (by omega) (by rw [List.size_toArray, ← hl]; exact h4) (by rw [hk]; exact ⟨_, I', q⟩)
  · have hk : (k + (its.toArray.size : Int)).toNat = j := by
      rw [seqIndex_neg (by omega) h3] at h1
      rw [List.size_toArray, ← hl]
      exact Option.some.inj h1
    exact PySem.W.ki_setBack ho (by omega) (by rw [List.size_toArray, ← hl]; exact h3) (by omega) (by rw [hk]; exact ⟨_, I', q⟩)
theorem slice_bounds (lo hi : Option Int) (n : Nat) : (sliceBounds lo hi none n).1 = ((HT.sIx n 0 lo : Nat) : Int) ∧ (sliceBounds lo hi none n).2.1 = ((HT.sIx n n hi : Nat) : Int) ∧ (sliceBounds lo hi none n).2.2 = 1 := by
  refine ⟨?_, ?_, rfl⟩
  · cases lo with
    | none => simp [sliceBounds, HT.sIx]
    | some i =>
      simp only [sliceBounds, HT.sIx, Option.getD_none, show (1 : Int) > 0 by decide, if_true]
      by_cases h : i < 0
      · simp only [h, if_true] <;> omega
      · simp only [h, if_false] <;> omega
  · cases hi with
    | none => simp [sliceBounds, HT.sIx]
    | some i =>
      simp only [sliceBounds, HT.sIx, Option.getD_none, show (1 : Int) > 0 by decide, if_true]
      by_cases h : i < 0
      · simp only [h, if_true] <;> omega
      · simp only [h, if_false] <;> omega
theorem slicePick_cut (its : List Value) (lo hi : Option Int) : slicePick its.toArray lo hi none = ((its.drop (HT.sIx its.length 0 lo)).take (HT.sIx its.length its.length hi - HT.sIx its.length 0 lo)).toArray := by
  obtain ⟨h1, h2, h3⟩ := slice_bounds lo hi its.toArray.size
  unfold slicePick
  rw [h1, h2, h3]
  simp only [sliceRange_one, pick_run, List.size_toArray] <;> rfl
def rSlL (K : PySem.W.Frag) : V → Option Int → Option Int → Hp → VK → Prop := fun x lo hi H Q => ∃ a xs, x = .ref a ∧ SqL K H a xs ∧ ∀ p, H p = none → Q (.ref p) (upd H p (.lst (cutV xs lo hi)))
theorem sl_list : SlR X (rSlL X.K) := by
  intro pins s σ H x v vl vu lo hi sl Q I rx hs pl pu h
  obtain ⟨a, xs, rfl, hx, q⟩ := h
  cases rx
  obtain ⟨its, r, ht, hz⟩ := I.list hx
  have hlen := r.length
  refine ⟨"list", _, slot_list_getitem.lookup, ht.isList.typeIs, ?_⟩
  refine wpAny_getItem_list_slice ht.isList hs pl pu .none (by simp) ?_ (by rw [List.size_toArray] <;> omega)
  rw [slicePick_cut, ← hlen]
  refine ⟨.ref s.heap.objs.size, _, I.laid (t' := s.toks) (o := .lst (cutV xs lo hi)) (fun b ob q => Heap.get?_push_of_some _ q) (Nat.le_refl _) ?_, rfl, q _ (I.hok.fresh (Nat.le_refl _))⟩
  exact ⟨Nat.le_trans (cutV_length xs lo hi) hz, _, 0, (r.drop (HT.sIx xs.length 0 lo)).take (HT.sIx xs.length xs.length hi - HT.sIx xs.length 0 lo), Heap.get?_push_size _ rfl⟩
theorem call_len_seq : CallR X (.builtin "len") (fun xs H Q => ∃ p ys, xs = [.ref p] ∧ (SqL X.K H p ys ∨ SqT X.K H p ys) ∧ Q (.int ys.length) H) := by
  intro pins s σ H xs us Q I r h
  obtain ⟨p, ys, rfl, hq, q⟩ := h
  obtain ⟨u, rfl, rx⟩ := vals1 r
  cases rx
  have hn := line63
  rcases hq with hq | hq
  · obtain ⟨its, r', pl, hz⟩ := I.list hq
    have hlen := r'.length
    exact Calls.call_len_list pl.isList (by simp only [List.size_toArray] <;> omega) ⟨.int ys.length, H, I.tok _, ⟨s.toks + 1, by rw [List.size_toArray, hlen]⟩, q⟩
  · obtain ⟨its, r', pl, hz⟩ := I.tuple hq
    have hlen := r'.length
    exact len_tuple pl (by simp only [List.size_toArray] <;> omega) ⟨.int ys.length, H, I.tok _, ⟨s.toks + 1, by rw [List.size_toArray, hlen]⟩, q⟩
def tyV (K : PySem.W.Frag) (T : String) (x : V) (H : Hp) : Prop := match x with
  | .str _ => T = "str"
  | .int _ => T = "int"
  | .ref p => (T = "list" ∧ ∃ xs, SqL K H p xs) ∨ (T = "tuple" ∧ ∃ o, K.lookup p = some o ∧ o.cls = .type "tuple" ∧ o.dict = none) ∨
      (T = "dict" ∧ ((∃ kvs, H p = some (.dK kvs)) ∨ ∃ kvs, H p = some (.dT kvs))) ∨ (T = "set" ∧ ∃ S n, H p = some (.set S n))
  | _ => False
theorem tyV_is {pins : List (Addr × Obj)} {σ : St} {H : Hp} {s : Shared} {T : String} {x : V} {v : Value} (I : Inv X pins σ H s) (r : RelV x v) (ty : tyV X.K T x H) :
    s.TypeIs v T ∧ ∀ a, v = .ref a → ∃ ob, s.heap.get? a = some ob ∧ ob.dict = none := by
  cases x with
  | str z =>
    obtain ⟨t, rfl⟩ := r
    cases (show T = "str" from ty)
    exact ⟨typeIs_str s z t, fun _ e => nomatch e⟩
  | int i =>
    obtain ⟨t, rfl⟩ := r
    cases (show T = "int" from ty)
    exact ⟨typeIs_int s i t, fun _ e => nomatch e⟩
  | ref p =>
    cases r
    rcases ty with ⟨rfl, xs, hq⟩ | ⟨rfl, o, hk, hc, hd⟩ | ⟨rfl, hk⟩ | ⟨rfl, S, n, hk⟩
    · obtain ⟨its, _, pl, _⟩ := I.list hq
      refine ⟨pl.isList.typeIs, fun a e => ?_⟩
      cases e
      obtain ⟨o, n, e, c, hd, _⟩ := pl
      exact ⟨o, e, hd⟩
    · refine ⟨⟨o, I.kIn p o hk, hc⟩, fun a e => ?_⟩
      cases e
      exact ⟨o, I.kIn _ o hk, hd⟩
    · have z : ∃ o, s.heap.get? p = some o ∧ o.ExactDict := by
        rcases hk with ⟨kvs, hk⟩ | ⟨kvs, hk⟩
        · obtain ⟨_, _, _, _, o, _, _, e, ex, _⟩ := I.hok p _ hk
          exact ⟨o, e, ex⟩
        · obtain ⟨_, _, _, _, o, _, _, e, ex, _⟩ := I.hok p _ hk
          exact ⟨o, e, ex⟩
      obtain ⟨o, e, ex⟩ := z
      refine ⟨⟨o, e, ex.1⟩, fun a e2 => ?_⟩
      cases e2
      exact ⟨o, e, ex.2.1⟩
    · obtain ⟨o, _, _, _, e, ex, _⟩ := I.hok p _ hk
      refine ⟨⟨o, e, ex.1⟩, fun a e2 => ?_⟩
      cases e2
      exact ⟨o, e, ex.2.1⟩
  | _ => exact False.elim ty
def tBM (K : PySem.W.Frag) (T : String) (r : V → List V → Hp → VK → Prop) (to : TE) (t : TA) : TE := fun σ H Q => to σ H fun x H1 => tyV K T x H1 ∧ t σ H1 fun xs H2 => r x xs H2 Q
variable {o e : Expr} {es : List Expr} {to : TE} {t : TA} {name : Str} {apos cpos : Pos} {T id : String} {r : V → List V → Hp → VK → Prop}
theorem pe_bm (pa : PlainAttrs T) (slot : Slot T name id) (hty : typeOf (.builtin id) = pure (.type "method_descriptor")) (hm : MtR X id r) (ho : PE X o to) (ha : PA X (e :: es) t)
    (hbase : attributeBase o name X.env (eval o X.env) = eval o X.env := by rfl)
    (hfew : ((backTo cpos (starEach (e :: es) X.env)).all (fun x => !x.1) && (backToKw cpos (keywordEach [] X.env)).all (fun x => x.1.isSome)
      && decide ((e :: es).length + ([] : List Keyword).length + (if ([] : List Keyword).isEmpty then 0 else 1) < 30)) = true := by rfl)
    (hline : (apos.endLine == cpos.line) = true := by rfl) (hs : starEach (e :: es) X.env = (false, eval e X.env) :: starEach es X.env := by rfl) (hplain : (backTo cpos (starEach es X.env)).any (·.1) = false := by rfl) :
    PE X (.Call (.Attribute o name apos) (e :: es) [] cpos) (tBM X.K T r to t) := by
  intro pins s σ H Q I h
  refine wpAny_Call_method_late hbase hfew hline rfl (thn (ho pins s σ H _ I h) fun v s1 ⟨x, H1, I1, r1, ty, q1⟩ => ?_)
  obtain ⟨h1, h2⟩ := tyV_is I1 r1 ty
  refine ⟨T, id, pa, slot, hty, h1, h2, ?_⟩
  have hA := ha cpos pins s1 σ H1 _ I1 q1
  rw [hs] at hA ⊢
  refine Calls.callWith_builtin (by show (false || (backTo cpos (starEach es X.env)).any (·.1)) = false; rw [hplain] <;> rfl) (Calls.evalArgs_plain ?_)
  exact thn hA fun us s2 ⟨vs, H2, I2, r2, q2⟩ => hm pins s2 σ H2 x vs v us Q I2 r1 r2 q2
end
end L2
namespace L2
open PySem PySem.Spec PyProof.Rows
def MtM (X : Cx) (id : String) (r : V → List V → Hp → VK → Prop) : Prop :=
  ∀ (pins : List (Addr × Obj)) (s : Shared) (σ : St) (H : Hp) (x : V) (xs : List V) (v : Value) (us : List Value) (Q : VK), Inv X pins σ H s → RelV x v → Vals xs us → r x xs H Q →
    wpAny (model X.prog X.w) X.A (call (.builtin id) (v :: us)) (EP X pins σ Q) X.xe s
theorem Vals.one : ∀ {x : V} {us : List Value}, Vals [x] us → ∃ u, us = [u] ∧ RelV x u
  | _, _, .cons r .nil => ⟨_, rfl, r⟩
theorem Vals.two : ∀ {x y : V} {us : List Value}, Vals [x, y] us → ∃ u v, us = [u, v] ∧ RelV x u ∧ RelV y v
  | _, _, _, .cons r (.cons q .nil) => ⟨_, _, rfl, r, q⟩
theorem Vals.zero : ∀ {us : List Value}, Vals [] us → us = []
  | _, .nil => rfl
theorem Vals.eraseIdx : ∀ {xs : List V} {us : List Value} (i : Nat), Vals xs us → Vals (xs.eraseIdx i) (us.eraseIdx i)
  | _, _, _, .nil => .nil
  | _, _, 0, .cons _ t => t
  | _, _, i + 1, .cons r t => .cons r (Vals.eraseIdx i t)
theorem Vals.rep {xs : List V} {us : List Value} (h : Vals xs us) : ∀ k : Nat, Vals (List.replicate k xs).flatten (List.replicate k us).flatten
  | 0 => .nil
  | k + 1 => by
    rw [List.replicate_succ, List.replicate_succ, List.flatten_cons, List.flatten_cons]
    exact Vals.append h (Vals.rep h k)
theorem len_erase {α : Type} : ∀ (l : List α) (i : Nat), (l.eraseIdx i).length ≤ l.length
  | [], _ => Nat.le_refl _
  | _ :: _, 0 => Nat.le_succ _
  | _ :: r, i + 1 => Nat.succ_le_succ (len_erase r i)
theorem foldl_rep (its : List Value) : ∀ (k : Nat) (acc : List Value),
    List.foldl (fun x1 x2 => x1 ++ x2) acc.toArray (List.replicate k its.toArray) = (acc ++ (List.replicate k its).flatten).toArray
  | 0, acc => by simp
  | k + 1, acc => by
    have e : acc.toArray ++ its.toArray = (acc ++ its).toArray := by simp
    have e2 : (acc ++ its) ++ (List.replicate k its).flatten = acc ++ (List.replicate (k + 1) its).flatten := by
      rw [List.replicate_succ, List.flatten_cons, List.append_assoc]
    rw [← e2, ← foldl_rep its k (acc ++ its), ← e, List.replicate_succ, List.foldl_cons]
section
variable {X : Cx} {pins : List (Addr × Obj)} {σ : St} {H : Hp} {s : Shared} {l b : Addr} {xs ys zs : List V}
theorem Inv.lset {its its' : List Value} {n : Nat} {f : Array Value → Array Value} {t' : Nat} (I : Inv X pins σ H s) (hH : H l = some (.lst xs))
    (e : s.heap.get? l = some { cls := .type "list", data := .seq its.toArray n }) (hf : f its.toArray = its'.toArray) (hv : Vals ys its') (hz : ys.length ≤ sizeLine) :
    Inv X pins σ (upd H l (.lst ys)) { s with heap := s.heap.update l (Obj.mapSeq f), toks := t' } := by
  have q := PySem.IsL.update e f
  rw [hf] at q
  refine I.write (x := l) (e := l) (by rw [hH]; exact trivial) (.inl rfl) (fun b' u hb hu => (Heap.get?_update_other s.heap (Obj.mapSeq f) (Ne.symm hb)).trans hu) ⟨_, q⟩ ?_
  exact ⟨hz, its', _, hv, q⟩
theorem Inv.lnew {its : List Value} {t' : Nat} (I : Inv X pins σ H s) (hv : Vals ys its) (hz : ys.length ≤ sizeLine) :
    Inv X pins σ (upd H s.heap.objs.size (.lst ys)) { s with heap := s.heap.push { cls := .type "list", data := .seq its.toArray }, toks := t' } :=
  I.laid (fun _ _ q => Heap.get?_push_of_some _ q) (Nat.le_refl _) ⟨hz, its, 0, hv, Heap.get?_push_size _ rfl⟩
theorem Inv.fresh (I : Inv X pins σ H s) : H s.heap.objs.size = none := I.hok.fresh (Nat.le_refl _)
theorem Inv.lstM (I : Inv X pins σ H s) (hH : H l = some (.lst xs)) : xs.length ≤ sizeLine ∧ ∃ (its : List Value) (n : Nat), Vals xs its ∧ xs.length = its.length ∧ s.heap.get? l = some { cls := .type "list", data := .seq its.toArray n } := by
  obtain ⟨z, its, n, r, e⟩ := I.hok l _ hH
  exact ⟨z, its, n, r, r.length, e⟩
theorem notLongL {n : Nat} (h : n ≤ sizeLine) : Builtin.List.listTooLong n = false := by
  unfold Builtin.List.listTooLong
  exact decide_eq_false (by omega)
end
section
variable {X : Cx}
def rAppend : V → List V → Hp → VK → Prop := fun x vs H Q => ∃ l xs y, x = .ref l ∧ vs = [y] ∧ H l = some (.lst xs) ∧ xs.length < sizeLine ∧ Q .non (upd H l (.lst (xs ++ [y])))
theorem mt_append : MtM X "list.append" rAppend := by
  intro pins s σ H x vs v us Q I rx rv h
  obtain ⟨l, xs, y, rfl, rfl, hH, hz, q⟩ := h
  cases rx
  obtain ⟨u, rfl, ru⟩ := rv.one
  obtain ⟨z, its, n, r, hl, e⟩ := I.lstM hH
  refine call_meets F.slot_list_append ⟨_, e, rfl⟩ F.entry_list_append (F.args_list_append_2 _ _) (PySem.list_append l its.toArray n u (by rw [List.size_toArray]; omega)) ⟨e, ?_⟩
  refine ⟨.non, _, I.lset (its' := its ++ [u]) hH e (by simp) (r.append (.cons ru .nil)) ?_, rfl, q⟩
  rw [List.length_append, List.length_singleton]
  omega
def rExtend : V → List V → Hp → VK → Prop := fun x vs H Q => ∃ l b xs zs, x = .ref l ∧ vs = [.ref b] ∧ H l = some (.lst xs) ∧ H b = some (.lst zs) ∧ xs.length + zs.length ≤ sizeLine ∧ Q .non (upd H l (.lst (xs ++ zs)))
theorem mt_extend : MtM X "list.extend" rExtend := by
  intro pins s σ H x vs v us Q I rx rv h
  obtain ⟨l, b, xs, zs, rfl, rfl, hH, hB, hz, q⟩ := h
  cases rx
  obtain ⟨u, rfl, ru⟩ := rv.one
  cases ru
  obtain ⟨z, its, n, r, hl, e⟩ := I.lstM hH
  obtain ⟨z2, its2, n2, r2, hl2, e2⟩ := I.lstM hB
  have hsz : its.toArray.size + its2.toArray.size ≤ sizeLine := by rw [List.size_toArray, List.size_toArray]; omega
  have hlong : ¬ (!its.toArray.isEmpty && Builtin.List.listTooLong (its.toArray.size + its2.toArray.size)) = true := by
    rw [notLongL hsz, Bool.and_false]
    exact Bool.false_ne_true
  refine call_meets F.slot_list_extend ⟨_, e, rfl⟩ F.entry_list_extend (F.args_list_extend_2 _ _)
    (AutoSeq1.list_extend_list_list_0 l its.toArray n b its2.toArray n2 hlong (by rw [List.size_toArray]; omega) (by omega)) ⟨e, e2, ?_⟩
  refine ⟨.non, _, I.lset (its' := its ++ its2) hH e (by simp) (r.append r2) ?_, rfl, q⟩
  rw [List.length_append]
  omega
def rPopAt : V → List V → Hp → VK → Prop := fun x vs H Q => ∃ l xs i k y, x = .ref l ∧ vs = [.int i] ∧ H l = some (.lst xs) ∧ -(2 ^ 63) ≤ i ∧ i < 2 ^ 63 ∧ seqIndex? i xs.length = some k ∧ xs[k]? = some y ∧ Q y (upd H l (.lst (xs.eraseIdx k)))
theorem mt_popAt : MtM X "list.pop" rPopAt := by
  intro pins s σ H x vs v us Q I rx rv h
  obtain ⟨l, xs, i, k, y, rfl, rfl, hH, h1, h2, hk, hy, q⟩ := h
  cases rx
  obtain ⟨u, rfl, ru⟩ := rv.one
  obtain ⟨t, rfl⟩ := ru
  obtain ⟨z, its, n, r, hl, e⟩ := I.lstM hH
  obtain ⟨w, hw, rw'⟩ := r.get hy
  refine call_meets F.slot_list_pop ⟨_, e, rfl⟩ F.entry_list_pop (F.args_list_pop_2 _ _)
    (MeetsSeq.list_pop_at l its.toArray n i t k w (fitsIndex_both h1 h2) (by rw [List.size_toArray, ← hl]; exact hk) (by rw [← Array.getElem?_toList]; exact hw) (by rw [List.size_toArray]; omega)) ⟨e, ?_⟩
  refine ⟨y, _, I.lset (its' := its.eraseIdx k) hH e ?_ (r.eraseIdx k) ?_, rw', q⟩
  · show its.toArray.eraseIdxIfInBounds k = (its.eraseIdx k).toArray
    rw [List.eraseIdxIfInBounds_toArray]
  · have := len_erase xs k
    omega
def rCat : R2 := fun x y H Q => ∃ l b xs zs, x = .ref l ∧ y = .ref b ∧ H l = some (.lst xs) ∧ H b = some (.lst zs) ∧ xs.length + zs.length ≤ sizeLine ∧ ∀ p, H p = none → Q (.ref p) (upd H p (.lst (xs ++ zs)))
theorem op_cat : OpR X (binaryOp .Add) rCat := by
  intro pins s σ H x y v u Q I rx ry h
  obtain ⟨l, b, xs, zs, rfl, rfl, hH, hB, hz, q⟩ := h
  cases rx
  cases ry
  obtain ⟨z, its, n, r, hl, e⟩ := I.lstM hH
  obtain ⟨z2, its2, n2, r2, hl2, e2⟩ := I.lstM hB
  refine PySem.P.add_list e e2 ?_ (by rw [List.size_toArray, List.size_toArray]; omega)
  have ea : its.toArray ++ its2.toArray = (its ++ its2).toArray := by simp
  rw [ea]
  exact ⟨.ref _, _, I.lnew (t' := s.toks) (r.append r2) (by rw [List.length_append]; omega), rfl, q _ I.fresh⟩
def rRep : R2 := fun x y H Q => ∃ l k xs, x = .ref l ∧ y = .int k ∧ H l = some (.lst xs) ∧ -(2 ^ 63) ≤ k ∧ k < 2 ^ 63 ∧ xs.length * k.toNat ≤ sizeLine ∧
  ∀ p, H p = none → Q (.ref p) (upd H p (.lst (List.replicate k.toNat xs).flatten))
theorem len_rep {α : Type} (xs : List α) (k : Nat) : (List.replicate k xs).flatten.length = k * xs.length := by
  induction k with
  | zero => simp
  | succ k ih => rw [List.replicate_succ, List.flatten_cons, List.length_append, ih, Nat.succ_mul, Nat.add_comm]
theorem op_rep : OpR X (binaryOp .Mult) rRep := by
  intro pins s σ H x y v u Q I rx ry h
  obtain ⟨l, k, xs, rfl, rfl, hH, h1, h2, hz, q⟩ := h
  cases rx
  obtain ⟨t, rfl⟩ := ry
  obtain ⟨z, its, n, r, hl, e⟩ := I.lstM hH
  have hlen : its.toArray.size * k.toNat ≤ sizeLine := by rw [List.size_toArray, ← hl]; exact hz
  have hcap : ¬ its.toArray.size * k.toNat > (2 ^ 63 - 1) / 8 := by
    have : (sizeLine : Nat) ≤ (2 ^ 63 - 1) / 8 := by decide
    omega
  have hfit : ¬ (!Builtin.List.listFitsIndex k) = true := by
    rw [fitsIndex_both h1 h2]
    exact Bool.false_ne_true
  have hlong : ¬ Builtin.List.listTooLong (its.toArray.size * k.toNat) = true := by
    rw [notLongL hlen]
    exact Bool.false_ne_true
  have hnew : List.foldl (fun x1 x2 => x1 ++ x2) #[] (List.replicate (if its.toArray.isEmpty = true then 0 else k.toNat) its.toArray) = (List.replicate k.toNat its).flatten.toArray := by
    have f0 : ∀ m : Nat, List.foldl (fun x1 x2 => x1 ++ x2) #[] (List.replicate m its.toArray) = (List.replicate m its).flatten.toArray := fun m => by
      have := foldl_rep its m []
      rw [List.nil_append] at this
      exact this
    rw [f0]
    cases its with
    | nil => simp
    | cons a r' => rw [if_neg (by simp)]
  refine wpAny_binaryOp_repeat_ref (T := "list") (U := "int") (by decide) ⟨_, e, rfl⟩ (fun s' => typeIs_int s' k t) noFill_list_mul F.fills_int_mul F.slot_int_rmul repeat_list F.slot_int_index.lookup
    (call_meets F.slot_int_rmul (typeIs_int s k t) F.entry_int_rmul (F.args_int_rmul_2 _ _) (int___rmul___int_list k t l its.toArray n)
      ⟨e, rfl, ⟨_, e, rfl⟩, call_meets F.slot_list_mul ⟨_, e, rfl⟩ F.entry_list_mul (F.args_list_mul_2 _ _) (AutoListH.list___mul___list_int_3 l its.toArray n k t hfit hcap hlong) ⟨e, ?_⟩⟩)
  rw [hnew]
  exact ⟨.ref _, _, I.lnew (t' := s.toks) (r.rep k.toNat) (by rw [len_rep, Nat.mul_comm]; exact hz), rfl, q _ I.fresh⟩
end
end L2
namespace L2
open PySem PySem.Spec PyProof.Rows
theorem Vals.strs : ∀ {xs : List Str} {us : List Value}, Vals (xs.map V.str) us → StrsAre us xs
  | [], us, h => by
    rw [List.map_nil] at h
    cases h
    exact StrsAre.nil
  | x :: xs, us, h => by
    rw [List.map_cons] at h
    cases h with
    | cons r t =>
      obtain ⟨k, rfl⟩ := r
      exact StrsAre.cons x k (Vals.strs t)
mutual
inductive Dp (K : PySem.W.Frag) (H : Hp) : V → PyData → Prop
  | non : Dp K H .non .none
  | bl (b : Bool) : Dp K H (.bl b) (.bool b)
  | int (i : Int) : Dp K H (.int i) (.int i)
  | str (x : Str) : Dp K H (.str x) (.str x)
  | lst {a : Addr} {xs : List V} {ds : List PyData} : SqL K H a xs → DpAll K H xs ds → Dp K H (.ref a) (.list ds)
  | tup {a : Addr} {xs : List V} {ds : List PyData} : SqT K H a xs → DpAll K H xs ds → Dp K H (.ref a) (.tuple ds)
inductive DpAll (K : PySem.W.Frag) (H : Hp) : List V → List PyData → Prop
  | nil : DpAll K H [] []
  | cons {v : V} {vs : List V} {d : PyData} {ds : List PyData} : Dp K H v d → DpAll K H vs ds → DpAll K H (v :: vs) (d :: ds)
end
section
variable {X : Cx} {pins : List (Addr × Obj)} {σ : St} {H : Hp} {s : Shared}
mutual
theorem Dp.reads (I : Inv X pins σ H s) : ∀ (d : PyData) (v : V) (u : Value), Dp X.K H v d → RelV v u → ∃ as, Reads s.heap u d as
  | .none, _, _, h, r => by
    cases h
    cases r
    exact ⟨_, Reads.none⟩
  | .bool b, _, _, h, r => by
    cases h
    cases r
    exact ⟨_, Reads.bool b⟩
  | .int i, _, _, h, r => by
    cases h
    obtain ⟨t, rfl⟩ := r
    exact ⟨_, Reads.int i t⟩
  | .str x, _, _, h, r => by
    cases h
    obtain ⟨t, rfl⟩ := r
    exact ⟨_, Reads.str x t⟩
  | .list ds, _, _, h, r => by
    cases h with
    | lst hs ha =>
      cases r
      obtain ⟨its, rv, ⟨o, n, ho, hc, _, hd⟩, _⟩ := I.list hs
      obtain ⟨as, hr⟩ := Dp.readsAll I ds _ its ha rv
      exact ⟨_, Reads.list ho hc hd hr⟩
  | .tuple ds, _, _, h, r => by
    cases h with
    | tup hs ha =>
      cases r
      obtain ⟨its, rv, ⟨o, ho, hc, n, hd⟩, _⟩ := I.tuple hs
      obtain ⟨as, hr⟩ := Dp.readsAll I ds _ its ha rv
      exact ⟨_, Reads.tuple ho hc hd hr⟩
  | .dict _, _, _, h, _ => by cases h
theorem Dp.readsAll (I : Inv X pins σ H s) : ∀ (ds : List PyData) (vs : List V) (us : List Value), DpAll X.K H vs ds → Vals vs us → ∃ as, ReadsAll s.heap us ds as
  | [], _, _, h, r => by
    cases h
    cases r
    exact ⟨_, ReadsAll.nil⟩
  | d :: ds, _, _, h, r => by
    cases h with
    | cons h1 h2 =>
      cases r with
      | cons r1 r2 =>
        obtain ⟨as, q1⟩ := Dp.reads I d _ _ h1 r1
        obtain ⟨bs, q2⟩ := Dp.readsAll I ds _ _ h2 r2
        exact ⟨_, ReadsAll.cons q1 q2⟩
end
end
end L2
namespace L2
open PySem PySem.Spec PyProof.Rows
abbrev CellAt (h : Heap) (c : Addr) (v : Option Value) : Prop := h.IsCell c v
def relS (scope sc : Scope) : Scope :=
  { scope with names := scope.names.map fun (n, k) => if (k == .free && sc.kind == .function && sc.names.lookup n == some .cell) then (n, .cell) else (n, k) }
def cloFrom (cells : List (Str × Addr)) : List (Str × NameKind) → List (Str × Addr) → List (Str × Addr)
  | [], acc => acc
  | (n, k) :: r, acc => if k == .free then cloFrom cells r ((n, (cells.lookup n).getD 0) :: acc) else cloFrom cells r acc
theorem closure_loop (env : Env) (f : Str × NameKind → List (Str × Addr) → Sem (ForInStep (List (Str × Addr))))
    (hf : ∀ n k c, f (n, k) c = if k == .free then (do let a ← cellOf env n; pure (.yield ((n, a) :: c))) else pure (.yield c)) :
    ∀ (names : List (Str × NameKind)) (acc : List (Str × Addr)), (∀ y ∈ names, y.2 = .free → ∃ c, env.cells.lookup y.1 = some c) → forIn names acc f = pure (cloFrom env.cells names acc)
  | [], acc, _ => by rw [List.forIn_nil]; rfl
  | (n, k) :: r, acc, h => by
    rw [List.forIn_cons, hf]
    have ih := fun acc => closure_loop env f hf r acc fun y hy => h y (List.mem_cons_of_mem _ hy)
    unfold cloFrom
    by_cases hk : (k == NameKind.free) = true
    · rw [if_pos hk, if_pos hk]
      obtain ⟨c, hc⟩ := h (n, k) List.mem_cons_self (by simpa using hk)
      have e : cellOf env n = pure c := by unfold cellOf; rw [hc]
      rw [e]
      have e2 : (env.cells.lookup n).getD 0 = c := by rw [hc]; rfl
      rw [e2]
      exact ih _
    · rw [if_neg hk, if_neg hk]
      exact ih _
theorem closure_ok {scope : Scope} {env : Env} (h : ∀ y ∈ scope.names, y.2 = .free → ∃ c, env.cells.lookup y.1 = some c) : closureFor scope env = pure (cloFrom env.cells scope.names []) := by
  simp only [closureFor]
  rw [closure_loop env _ (fun n k c => rfl) scope.names [] h]
  rfl
theorem mem_lookup {α : Type} : ∀ {l : List (Str × α)} {n : Str} {c : α}, (n, c) ∈ l → ∃ c', l.lookup n = some c'
  | (k, v) :: r, n, c, h => by
    rw [List.lookup_cons]
    cases hb : n == k with
    | true => exact ⟨_, rfl⟩
    | false =>
      rcases List.mem_cons.mp h with e | h
      · cases e; simp at hb
      · exact mem_lookup h
theorem cloFrom_mem {cells : List (Str × Addr)} : ∀ {names : List (Str × NameKind)} {acc : List (Str × Addr)} {n : Str} {c : Addr}, (n, c) ∈ cloFrom cells names acc → (n, c) ∈ acc ∨ ((n, .free) ∈ names ∧ c = (cells.lookup n).getD 0)
  | [], _, _, _, h => .inl h
  | (m, k) :: r, acc, n, c, h => by
    unfold cloFrom at h
    split at h
    · rename_i hk
      have hk : k = .free := by simpa using hk
      rcases cloFrom_mem h with h | ⟨h1, h2⟩
      · rcases List.mem_cons.mp h with e | h
        · cases e; exact .inr ⟨hk ▸ List.mem_cons_self, rfl⟩
        · exact .inl h
      · exact .inr ⟨List.mem_cons_of_mem _ h1, h2⟩
    · rcases cloFrom_mem h with h | ⟨h1, h2⟩
      · exact .inl h
      · exact .inr ⟨List.mem_cons_of_mem _ h1, h2⟩
theorem cloFrom_acc {cells : List (Str × Addr)} : ∀ {names : List (Str × NameKind)} {acc : List (Str × Addr)} {p : Str × Addr}, p ∈ acc → p ∈ cloFrom cells names acc
  | [], _, _, h => h
  | (m, k) :: r, acc, p, h => by
    unfold cloFrom
    split
    · exact cloFrom_acc (List.mem_cons_of_mem _ h)
    · exact cloFrom_acc h
theorem cloFrom_has {cells : List (Str × Addr)} : ∀ {names : List (Str × NameKind)} {acc : List (Str × Addr)} {n : Str}, (n, .free) ∈ names → (n, (cells.lookup n).getD 0) ∈ cloFrom cells names acc
  | (m, k) :: r, acc, n, h => by
    unfold cloFrom
    rcases List.mem_cons.mp h with e | h
    · cases e
      exact cloFrom_acc List.mem_cons_self
    · split
      · exact cloFrom_has h
      · exact cloFrom_has h
theorem cells_mem : ∀ {names : List (Str × NameKind)} {h : Heap} {acc : List (Str × Addr)} {x : Str} {c : Addr}, (x, c) ∈ cellsFrom h.objs.size names acc →
    (x, c) ∈ acc ∨ ((x, .cell) ∈ names ∧ h.objs.size ≤ c ∧ CellAt (pushCells h names) c none)
  | [], _, _, _, _, h => .inl h
  | (n, k) :: r, h, acc, x, c, hm => by
    unfold cellsFrom at hm
    unfold pushCells
    split at hm
    · rename_i hk
      rw [if_pos hk]
      have hk : k = .cell := by simpa using hk
      rw [← Heap.size_push h { cls := .type "cell", data := .cell none }] at hm
      rcases cells_mem hm with hm | ⟨h1, h2, h3⟩
      · rcases List.mem_cons.mp hm with e | hm
        · cases e
          exact .inr ⟨hk ▸ List.mem_cons_self, Nat.le_refl _, _, pushCells_keeps r _ _ _ (Heap.get?_push_size _ rfl), rfl⟩
        · exact .inl hm
      · rw [Heap.size_push] at h2
        exact .inr ⟨List.mem_cons_of_mem _ h1, Nat.le_of_succ_le h2, h3⟩
    · rename_i hk
      rw [if_neg hk]
      rcases cells_mem hm with hm | ⟨h1, h2, h3⟩
      · exact .inl hm
      · exact .inr ⟨List.mem_cons_of_mem _ h1, h2, h3⟩
theorem cells_acc : ∀ {names : List (Str × NameKind)} {n : Nat} {acc : List (Str × Addr)} {p : Str × Addr}, p ∈ acc → p ∈ cellsFrom n names acc
  | [], _, _, _, h => h
  | (m, k) :: r, n, acc, p, h => by
    unfold cellsFrom
    split
    · exact cells_acc (List.mem_cons_of_mem _ h)
    · exact cells_acc h
theorem cells_has : ∀ {names : List (Str × NameKind)} {n : Nat} {acc : List (Str × Addr)} {x : Str}, (x, .cell) ∈ names → ∃ c, (x, c) ∈ cellsFrom n names acc
  | (m, k) :: r, n, acc, x, h => by
    unfold cellsFrom
    rcases List.mem_cons.mp h with e | h
    · cases e
      exact ⟨n, cells_acc List.mem_cons_self⟩
    · split
      · exact cells_has h
      · exact cells_has h
theorem cells_inj : ∀ {names : List (Str × NameKind)} {h : Heap} {acc : List (Str × Addr)} {x y : Str} {c : Addr}, (∀ p ∈ acc, p.2 < h.objs.size) → (∀ x y c, (x, c) ∈ acc → (y, c) ∈ acc → x = y) →
    (x, c) ∈ cellsFrom h.objs.size names acc → (y, c) ∈ cellsFrom h.objs.size names acc → x = y
  | [], _, _, _, _, _, _, hi, h1, h2 => hi _ _ _ h1 h2
  | (n, k) :: r, h, acc, x, y, c, hl, hi, h1, h2 => by
    unfold cellsFrom at h1 h2
    split at h1
    · rename_i hk
      rw [if_pos hk] at h2
      rw [← Heap.size_push h { cls := .type "cell", data := .cell none }] at h1 h2
      refine cells_inj (h := h.push _) (fun p hp => ?_) (fun x y c a b => ?_) h1 h2
      · rw [Heap.size_push]
        rcases List.mem_cons.mp hp with rfl | hp
        · exact Nat.lt_succ_self _
        · exact Nat.lt_succ_of_lt (hl p hp)
      · rcases List.mem_cons.mp a with e | a <;> rcases List.mem_cons.mp b with e' | b
        · cases e; cases e'; rfl
        · cases e; exact absurd (hl _ b) (Nat.lt_irrefl _)
        · cases e'; exact absurd (hl _ a) (Nat.lt_irrefl _)
        · exact hi _ _ _ a b
    · rename_i hk
      rw [if_neg hk] at h2
      exact cells_inj hl hi h1 h2
theorem newEnv_comp {M : Model} {A : Around} {E : Value → Shared → Prop} {s : Shared} {scope : Scope} {globals : Addr} {closure : List (Str × Addr)} {qual : Str} {func : Option Addr} {code : Value} {around : Env} {builtins : Addr} {Q : Env → Shared → Prop}
    (h : Q (newEnv scope s.heap.objs.size globals (cellsFrom (s.heap.objs.size + 1) scope.names closure) qual func code (some around) builtins)
      { s with heap := pushCells (s.heap.push { cls := .type "dict", data := .dict #[] }) scope.names }) :
    wpAny M A (newFunctionEnv scope globals closure [] qual func code (some around) builtins) Q E s := by
  simp only [newFunctionEnv, Option.isSome_some, if_true]
  refine wpAny_bind (wpAny_alloc ?_)
  refine wpAny_bind (wpAny_layCells _ (fun n k c => rfl) scope.names closure _ _ ?_)
  rw [show ({ s with heap := s.heap.push { cls := .type "dict", data := .dict #[] } } : Shared).heap.objs.size = s.heap.objs.size + 1 from Heap.size_push ..]
  rw [List.forIn_nil]
  exact wpAny_bind (wpAny_pure (wpAny_pure h))
theorem lookup_relS {sc : Scope} : ∀ {names : List (Str × NameKind)} {x : Str} {k : NameKind},
    (names.map fun (n, k) => if (k == NameKind.free && sc.kind == .function && sc.names.lookup n == some .cell) then (n, NameKind.cell) else (n, k)).lookup x = some k →
    ∃ k', names.lookup x = some k' ∧ (k = k' ∨ (k' = .free ∧ k = .cell))
  | [], _, _, h => by simp at h
  | (n, k₀) :: r, x, k, h => by
    have ih := @lookup_relS sc r x k
    have h' : List.lookup x ((if (k₀ == NameKind.free && sc.kind == .function && sc.names.lookup n == some .cell) = true then (n, NameKind.cell) else (n, k₀)) :: (r.map _)) = some k := h
    cases hx : x == n with
    | true =>
      simp only [List.lookup_cons, hx]
      by_cases hc : (k₀ == NameKind.free && sc.kind == .function && sc.names.lookup n == some .cell) = true
      · rw [if_pos hc] at h'
        simp only [List.lookup_cons, hx] at h'
        cases h'
        simp only [Bool.and_eq_true, beq_iff_eq] at hc
        exact ⟨k₀, rfl, .inr ⟨hc.1.1, rfl⟩⟩
      · rw [if_neg hc] at h'
        simp only [List.lookup_cons, hx] at h'
        cases h'
        exact ⟨_, rfl, .inl rfl⟩
    | false =>
      simp only [List.lookup_cons, hx]
      by_cases hc : (k₀ == NameKind.free && sc.kind == .function && sc.names.lookup n == some .cell) = true
      · rw [if_pos hc] at h'
        simp only [List.lookup_cons, hx] at h'
        exact ih h'
      · rw [if_neg hc] at h'
        simp only [List.lookup_cons, hx] at h'
        exact ih h'
structure BlkOk (N : List Str) (sc scope : Scope) (own : List (Str × Nat)) : Prop where
  kind : scope.kind = .function
  uniq : ∀ y ∈ scope.names, scope.names.lookup y.1 = some y.2
  ix : ∀ p ∈ own, N[p.2]? = some p.1
  free : ∀ y ∈ scope.names, y.2 = .free → sc.names.lookup y.1 = some .cell ∨ sc.names.lookup y.1 = some .free
  own : ∀ y ∈ scope.names, y.2 = .local ∨ y.2 = .cell → y.1 ∈ own.map (·.1) ∨ y.1 ∉ N
def wipe (σ : St) : List Nat → St
  | [] => σ
  | v :: vs => (wipe σ vs).set v none
theorem wipe_length (σ : St) : ∀ vs : List Nat, (wipe σ vs).length = σ.length
  | [] => rfl
  | v :: vs => by unfold wipe; rw [List.length_set, wipe_length σ vs]
theorem wipe_some {σ : St} {i : Nat} {x : V} : ∀ {vs : List Nat}, (wipe σ vs)[i]? = some (some x) → σ[i]? = some (some x) ∧ i ∉ vs
  | [], h => ⟨h, by simp⟩
  | v :: vs, h => by
    unfold wipe at h
    by_cases hi : v = i
    · subst hi
      by_cases hv : v < (wipe σ vs).length
      · rw [List.getElem?_set_self hv] at h; cases h
      · rw [List.getElem?_eq_none (by simpa using hv)] at h; cases h
    · rw [List.getElem?_set_ne hi] at h
      obtain ⟨h1, h2⟩ := wipe_some h
      exact ⟨h1, by simp only [List.mem_cons, not_or]; exact ⟨fun e => hi e.symm, h2⟩⟩
abbrev Cx.blk (X : Cx) (s : Shared) (H : Hp) (scope : Scope) (cenv : Env) (fp : List Addr) : Cx := { X with s_0 := s, H_0 := H, env := cenv, outer := X.stack, ex := fp, fn := fun x => scope.names.lookup x == some .cell, pn := [], xe := fun _ _ => False }
section
variable {X : Cx} {pins : List (Addr × Obj)} {σ : St} {H : Hp} {s : Shared}
theorem block_start {scope : Scope} {own : List (Str × Nat)} {fp : List Addr} (I : Inv X pins σ H s) (ok : BlkOk X.N X.env.scope scope own) (hN : X.N.Nodup) (hfp : ∀ b ∈ fp, FpOk X pins H b ∧ b < s.heap.objs.size) :
    Inv (X.blk s H scope (compEnvC scope (cellsFrom (s.heap.objs.size + 1) scope.names (cloFrom X.env.cells scope.names [])) s.heap.objs.size X.env) fp) [] (wipe σ (own.map (·.2))) H { s with heap := pushCells (s.heap.push { cls := .type "dict", data := .dict #[] }) scope.names } := by
  have hfree : ∀ y ∈ scope.names, y.2 = .free → ∃ c, X.env.cells.lookup y.1 = some c := fun y hy e => by
    rcases ok.free y hy e with k | k
    · exact I.ok.has _ (.inl k)
    · exact I.ok.has _ (.inr k)
  generalize hcenv : compEnvC scope (cellsFrom (s.heap.objs.size + 1) scope.names (cloFrom X.env.cells scope.names [])) s.heap.objs.size X.env = cenv
  have kp : ∀ b o, s.heap.get? b = some o → (pushCells (s.heap.push { cls := .type "dict", data := .dict #[] }) scope.names).get? b = some o := fun b o e => pushCells_keeps _ _ _ _ (Heap.get?_push_of_some _ e)
  have hL : cenv.locals = s.heap.objs.size := by rw [← hcenv]; rfl
  have hcl : cenv.cells = cellsFrom (s.heap.objs.size + 1) scope.names (cloFrom X.env.cells scope.names []) := by rw [← hcenv]; rfl
  have hsc : cenv.scope = relS scope X.env.scope := by rw [← hcenv]; rfl
  rw [← Heap.size_push s.heap { cls := .type "dict", data := .dict #[] }] at hcl
  have cm : ∀ {y c}, (y, c) ∈ cloFrom X.env.cells scope.names [] → X.env.cells.lookup y = some c ∧ c < s.heap.objs.size := fun {y c} hm => by
    rcases cloFrom_mem hm with hm | ⟨h1, rfl⟩
    · cases hm
    · obtain ⟨c, hc⟩ := hfree _ h1 rfl
      rw [hc]
      obtain ⟨w, z⟩ := I.cell _ _ hc
      exact ⟨rfl, z.lt⟩
  have mem : ∀ {y c}, cenv.cells.lookup y = some c → (X.env.cells.lookup y = some c ∧ c < s.heap.objs.size) ∨ (s.heap.objs.size + 1 ≤ c ∧ CellAt (pushCells (s.heap.push { cls := .type "dict", data := .dict #[] }) scope.names) c none) := fun {y c} e => by
    rw [hcl] at e
    rcases cells_mem (PySem.mem_of_lookup e) with hm | ⟨_, h2, h3⟩
    · exact .inl (cm hm)
    · rw [Heap.size_push] at h2; exact .inr ⟨h2, h3⟩
  have look : ∀ {y}, scope.names.lookup y = some .free → ∃ c, cenv.cells.lookup y = some c ∧ X.env.cells.lookup y = some c := fun {y} hl => by
    have hy : (y, NameKind.free) ∈ scope.names := PySem.mem_of_lookup hl
    obtain ⟨c', e'⟩ := mem_lookup (cells_acc (names := scope.names) (n := (s.heap.push { cls := .type "dict", data := .dict #[] }).objs.size) (cloFrom_has (cells := X.env.cells) (acc := []) hy))
    rw [← hcl] at e'
    refine ⟨c', e', ?_⟩
    rw [hcl] at e'
    rcases cells_mem (PySem.mem_of_lookup e') with hm | ⟨h1, _, _⟩
    · exact (cm hm).1
    · have := ok.uniq _ h1
      rw [hl] at this; cases this
  have okB : (X.blk s H scope cenv fp).Ok := by
    refine ⟨I.ok.mod, by show cenv.scope.kind = _; rw [hsc]; exact ok.kind, by show cenv.globals = _; rw [← hcenv]; exact I.ok.glob, by show cenv.builtins = _; rw [← hcenv]; exact I.ok.blt, by show s.heap.objs.size ≤ cenv.locals; rw [hL]; exact Nat.le_refl _,
      fun y z c e1 e2 => ?_, fun y hy => ?_, fun y c z e => ?_, I.ok.hd, I.ok.frames, .inl rfl, fun b hb => ⟨?_, fun y c e z => ?_⟩, I.bs, Nat.le_trans I.ok.bsz I.sz, fun b o e hb => ?_, fun b hb z => ?_, I.stack, I.stkFree⟩
    · have e1 : cenv.cells.lookup y = some c := e1
      have e2 : cenv.cells.lookup z = some c := e2
      rw [hcl] at e1 e2
      refine cells_inj (fun p hp => ?_) (fun y z c a b => I.ok.inj y z c (cm a).1 (cm b).1) (PySem.mem_of_lookup e1) (PySem.mem_of_lookup e2)
      rw [Heap.size_push]
      exact Nat.lt_succ_of_lt (cm (y := p.1) (c := p.2) hp).2
    · show ∃ c, cenv.cells.lookup y = some c
      have key : ∀ k, cenv.kindOf y = some k → (k = .cell ∨ k = .free) → ∃ c, cenv.cells.lookup y = some c := fun k hk hk' => by
        unfold Env.kindOf at hk
        rw [hsc] at hk
        obtain ⟨k', e, r⟩ := lookup_relS hk
        have : k' = .cell ∨ k' = .free := by
          rcases r with rfl | ⟨rfl, _⟩
          · exact hk'
          · exact .inr rfl
        rcases this with rfl | rfl
        · obtain ⟨c, hm⟩ := cells_has (n := (s.heap.push { cls := .type "dict", data := .dict #[] }).objs.size) (acc := cloFrom X.env.cells scope.names []) (PySem.mem_of_lookup e)
          obtain ⟨c', e'⟩ := mem_lookup hm
          exact ⟨c', by rw [hcl]; exact e'⟩
        · obtain ⟨c, h1, _⟩ := look e
          exact ⟨c, h1⟩
      rcases hy with hy | hy
      · exact key _ hy (.inl rfl)
      · exact key _ hy (.inr rfl)
    · have z : (scope.names.lookup y == some NameKind.cell) = true := z
      have z : scope.names.lookup y = some .cell := by simpa using z
      have e : cenv.cells.lookup y = some c := e
      rw [hcl] at e
      rcases cells_mem (PySem.mem_of_lookup e) with hm | ⟨_, h2, _⟩
      · rcases cloFrom_mem hm with hm | ⟨h1, _⟩
        · cases hm
        · have q := ok.uniq _ h1
          rw [z] at q; cases q
      · rw [Heap.size_push] at h2
        exact Nat.le_of_succ_le h2
    · show b ≠ cenv.locals
      rw [hL]; exact Nat.ne_of_lt (hfp b hb).2
    · have e : cenv.cells.lookup y = some c := e
      rcases mem e with ⟨h1, _⟩ | ⟨h1, _⟩
      · exact (hfp b hb).1.2.2.2.2.1 y c h1 z
      · have h2 : s.heap.objs.size + 1 ≤ b := by rw [← z]; exact h1
        exact absurd (Nat.lt_of_lt_of_le (hfp b hb).2 (Nat.le_of_succ_le h2)) (Nat.lt_irrefl _)
    · rcases (hfp b hb).1.2.2.2.1 with z | z
      · exact I.ok.noex b o e z
      · exact absurd (Nat.lt_of_lt_of_le (Heap.lt_size e) (Nat.le_trans I.ok.bsz z)) (Nat.lt_irrefl _)
    · rcases List.mem_cons.mp (I.stkSub b z) with z | z
      · exact (hfp b hb).1.2.1 z
      · exact (hfp b hb).1.2.2.1 z
  refine ⟨okB, rfl, I.bare, Un.kept kp, ⟨fun _ => none, ?_, fun i y av e1 e2 e3 => ?_⟩, fun y c e => ?_, ?_, fun y c e => ?_, fun p hp => ?_, I.hok.kept kp, by rw [wipe_length]; exact I.len⟩
  · show Heap.Ns _ cenv.locals _
    rw [hL]
    exact Heap.Ns.keeps (Heap.Ns.new ..) fun b o e => pushCells_keeps _ _ _ _ e
  · obtain ⟨e2, hne⟩ := wipe_some e2
    have hfr : scope.names.lookup y = some .free ∧ (cenv.kindOf y = some .cell ∨ cenv.kindOf y = some .free) := by
      have key : ∀ k, cenv.scope.names.lookup y = some k → k = .local ∨ k = .cell ∨ k = .free → scope.names.lookup y = some .free ∧ (cenv.kindOf y = some .cell ∨ cenv.kindOf y = some .free) := fun k hk hk' => by
        have hk0 := hk
        rw [hsc] at hk
        obtain ⟨k', e, r⟩ := lookup_relS hk
        have no : ¬ (k' = .local ∨ k' = .cell) := fun hh => by
          rcases ok.own _ (PySem.mem_of_lookup e) hh with e' | e'
          · obtain ⟨p, hp, hpy⟩ := List.mem_map.mp e'
            have e3 := ok.ix p hp
            have : p.1 = y := hpy
            rw [this] at e3
            exact hne (List.mem_map.mpr ⟨p, hp, nodup_ix hN e3 e1⟩)
          · exact e' (List.mem_of_getElem? e1)
        rcases r with rfl | ⟨rfl, rfl⟩
        · rcases hk' with rfl | rfl | rfl
          · exact absurd (.inl rfl) no
          · exact absurd (.inr rfl) no
          · exact ⟨e, .inr hk0⟩
        · exact ⟨e, .inl hk0⟩
      have e3 : Vis cenv.scope y := e3
      rcases e3 with e3 | e3 | e3
      · exact key _ e3 (.inl rfl)
      · exact key _ e3 (.inr (.inl rfl))
      · exact key _ e3 (.inr (.inr rfl))
    obtain ⟨m, hn, hl⟩ := I.loc
    have hvis : Vis X.env.scope y := (ok.free _ (PySem.mem_of_lookup hfr.1) rfl).elim (fun k => .inr (.inl k)) (fun k => .inr (.inr k))
    obtain ⟨w, r, q⟩ := hl i y av e1 e2 hvis
    refine ⟨w, r, .inr ⟨hfr.2, ?_⟩⟩
    obtain ⟨c, h1, h2⟩ := look hfr.1
    rcases q with ⟨k, _⟩ | ⟨_, c', e', z⟩
    · have k : X.env.scope.names.lookup y = some .local := k
      rcases ok.free _ (PySem.mem_of_lookup hfr.1) rfl with k' | k' <;> rw [show X.env.scope.names.lookup y = _ from k'] at k <;> cases k
    · rw [h2] at e'; cases e'
      exact ⟨c, h1, z.keeps kp⟩
  · have e : cenv.cells.lookup y = some c := e
    rcases mem e with ⟨h1, _⟩ | ⟨_, z⟩
    · obtain ⟨w, z⟩ := I.cell y c h1
      exact ⟨w, z.keeps kp⟩
    · exact ⟨_, z⟩
  · show H cenv.locals = none
    rw [hL]; exact I.hok.fresh (Nat.le_refl _)
  · have e : cenv.cells.lookup y = some c := e
    rcases mem e with ⟨h1, _⟩ | ⟨h1, _⟩
    · exact I.freeC y c h1
    · exact I.hok.fresh (Nat.le_of_succ_le h1)
  · exact absurd (show p ∈ ([] : List (Addr × Obj)) ++ [] from hp) (by simp)
theorem app_ok {E : Value → Shared → Prop} {D : Addr} {xs : List V} {y : V} {v : Value} {Q : Value → Shared → Prop} (I : Inv X pins σ H s) (hD : H D = some (.lst xs)) (hz : xs.length < sizeLine) (r : RelV y v)
    (h : ∀ s', Inv X pins σ (upd H D (.lst (xs ++ [y]))) s' → Q .none s') : wpAny (model X.prog X.w) X.A (call (.builtin "list.append") [.ref D, v]) Q E s := by
  obtain ⟨hz', its, n, ri, e⟩ := I.hok D _ hD
  have hl := ri.length
  refine append_at (hsz := by rw [List.size_toArray]; omega) e fun h' sb ho' => ?_
  refine h { s with heap := h' } (I.write (t' := s.toks) (by rw [hD]; trivial) (.inl rfl) (fun b u hb q => (sb.2 b hb).trans q) ⟨_, ho'⟩ ⟨by rw [List.length_append]; exact hz, its ++ [v], n + 1, ri.append (.cons r .nil), ?_⟩)
  rw [ho']
  simp
def PTs (X : Cx) (ifs : List Expr) (t : TT) : Prop :=
  ∀ (pins : List (Addr × Obj)) (s : Shared) (σ : St) (H : Hp) (Q : Bool → Hp → Prop), Inv X pins σ H s → t σ H Q →
    wpAny (model X.prog X.w) X.A (forIn ifs true fun c r => if r = true then do let ok ← isTrue c X.env (eval c X.env); pure (ForInStep.yield ok) else pure (ForInStep.yield r)) (TP X pins σ Q) X.xe s
def tYes : TT := fun _ H Q => Q true H
theorem pts_nil : PTs X [] tYes := fun _ _ _ H _ I h => wpAny_tests_nil ⟨H, I, h⟩
theorem pts_one {c : Expr} {t : TT} (h : PT X c t) : PTs X [c] t := fun pins s σ H Q I hw => wpAny_tests_one (h pins s σ H Q I hw)
end
theorem thnF {α : Type} {t : Sem α} {Q Q' : α → Shared → Prop} {M : Model} {A : Around} {E : Value → Shared → Prop} {s : Shared} (h : wpAny M A t Q (fun _ _ => False) s) (hQ : ∀ a s, Q a s → Q' a s) : wpAny M A t Q' E s := wpAny_mono h hQ fun _ _ z => False.elim z
theorem compLoop_any {prog : Program} {w : World} {A : Around} {R : Result → Shared → Prop} {s : Shared} {elt target iter : Expr} {ifs : List Expr} {scope : Scope} {pos : Pos} {it acc : Value} {env : Env} (I : Nat → Shared → Prop)
    (turn : ∀ n s, I n s → wpAny (model prog w) A (pyNext it) (fun r s₁ => match r with
      | none => R (.ok .next) s₁
      | some v => wpAny (model prog w) A (letOwnedTupleGo target it v) (fun _ s₁' => wpAny (model prog w) A (assign target env v) (fun _ s₂ =>
          wpAny (model prog w) A (forIn ifs true fun c r => if r = true then do let ok ← isTrue c env (eval c env); pure (ForInStep.yield ok) else pure (ForInStep.yield r)) (fun ok s₃ =>
            if ok = true then wpAny (model prog w) A (eval elt env) (fun x s₄ =>
              wpAny (model prog w) A (call (.builtin "list.append") [acc, x]) (fun _ s₅ => ∃ m, m < n ∧ I m s₅) (notedBy (model prog w) A env fun e s' => R (.error e) s') s₄) (notedBy (model prog w) A env fun e s' => R (.error e) s') s₃
            else ∃ m, m < n ∧ I m s₃) (notedBy (model prog w) A env fun e s' => R (.error e) s') s₂) (notedBy (model prog w) A env fun e s' => R (.error e) s') s₁') (notedBy (model prog w) A env fun e s' => R (.error e) s') s₁) (notedBy (model prog w) A env fun e s' => R (.error e) s') s)
    (n : Nat) (h : I n s) :
    codeAny (model prog w) A (.compLoop (.ListComp elt [⟨target, iter, ifs, 0⟩] scope pos) 0 it acc env) R s := by
  refine codeAny_loop rfl I (fun n s hI => ?_) n h
  show wpAny _ A ((compTurn (.ListComp elt [⟨target, iter, ifs, 0⟩] scope pos) 0 it acc env).onRaise (fun x => do noteFrame x env; theTreesLotGoes x)) _ _ s
  refine wpAny_noted ?_
  rw [compTurn_list]
  refine wpAny_bind (wpAny_standAt (wpAny_bind (wpAny_mono (turn n s hI) (fun r s₁ h₁ => ?_) fun _ _ h' => h')))
  cases r with
  | none => exact wpAny_pure h₁
  | some v =>
    refine wpAny_bind (wpAny_mono h₁ (fun _ s₁' h₁' => ?_) fun _ _ h' => h')
    refine wpAny_bind (wpAny_mono h₁' (fun _ s₂ h₂ => wpAny_bind (wpAny_mono h₂ (fun ok s₃ h₃ => ?_) fun _ _ h' => h')) fun _ _ h' => h')
    cases ok with
    | false => exact wpAny_pure ⟨rfl, h₃⟩
    | true =>
      exact wpAny_bind (wpAny_bind (wpAny_mono h₃ (fun x s₄ h₄ => wpAny_bind (wpAny_mono h₄ (fun _ s₅ h₅ => wpAny_pure (wpAny_pure ⟨rfl, h₅⟩)) fun _ _ h' => h')) fun _ _ h' => h'))
section
variable {X : Cx}
def tLc (wi : TI) (g : TG) (tt : TT) (te : TE) (vs : List Nat) : TE := fun σ H Q => wi σ H fun J H1 => ∀ D, H1 D = none → ∃ W : Nat → Nat → Hp → Prop, (∃ m, W 0 m (upd H1 D (.lst []))) ∧ ∀ i m H, W i m H →
  (J.stop i H ∧ Q (.ref D) H) ∨ (J.go i H ∧ ∃ Nx : Hp → Prop, (∀ H', Nx H' → ∃ m', m' < m ∧ W (i + 1) m' H') ∧ ∀ x H', J.yld i H x H' → g x (wipe σ vs) H' fun σ2 H2 => wipe σ2 vs = wipe σ vs ∧ tt σ2 H2 fun b H3 =>
    if b = true then te σ2 H3 fun y H4 => ∃ acc, H4 D = some (.lst acc) ∧ acc.length < sizeLine ∧ Nx (upd H4 D (.lst (acc ++ [y]))) else Nx H3)
theorem lc_core {pins : List (Addr × Obj)} {s : Shared} {σ : St} {H : Hp} {Q : VK} {elt tg iter : Expr} {ifs : List Expr} {scope : Scope} {own : List (Str × Nat)} {pos pos' : Pos} {wi : TI} {g : TG} {tt : TT} {te : TE} {use : Option (Value → Sem Unit)} {Qf : Value → Shared → Prop}
    (hc : X.calm = true) (hN : X.N.Nodup) (I : Inv X pins σ H s) (hi : PI X tg iter wi) (ok : BlkOk X.N X.env.scope scope own)
    (hg : ∀ (s : Shared) (H : Hp) (C : Addr) (cl : List (Str × Addr)) (fp : List Addr), PG (X.blk s H scope (compEnvC scope cl C X.env) fp) tg g) (ht : ∀ (s : Shared) (H : Hp) (C : Addr) (cl : List (Str × Addr)) (fp : List Addr), PTs (X.blk s H scope (compEnvC scope cl C X.env) fp) ifs tt)
    (he : ∀ (s : Shared) (H : Hp) (C : Addr) (cl : List (Str × Addr)) (fp : List Addr), PE (X.blk s H scope (compEnvC scope cl C X.env) fp) elt te) (hs : ∀ x, foldedSetIterable iter X.env x = pure x)
    (h : tLc wi g tt te (own.map (·.2)) σ H Q)
    (hRR : ∀ D C s' m H', Inv X pins σ H' s' → Q (.ref D) H' → s'.heap.Ns C m → FpOk X pins H' C → compPost (model X.prog X.w) X.A X.xe use Qf (.ref D) C (.ok .next) s') :
    wpAny (model X.prog X.w) X.A (comprehension (.ListComp elt [⟨tg, iter, ifs, 0⟩] scope pos) scope X.env pos' (newList []) false (eval iter X.env) use) Qf X.xe s := by
  have hfree : ∀ y ∈ scope.names, y.2 = .free → ∃ c, X.env.cells.lookup y.1 = some c := fun y hy e => by
    rcases ok.free y hy e with k | k
    · exact I.ok.has _ (.inl k)
    · exact I.ok.has _ (.inr k)
  refine wpAny_comprehension_free (use := use) rfl hs (closure_ok hfree) ok.kind (fun y hy e => by rw [ok.uniq y hy, e])
    (thn (hi pins s σ H _ I h) fun xv s1 hx => thn hx fun itv s2 h2 => ?_)
  obtain ⟨it, fp, tn, J, H2, e, I2, T, st2, f2, q⟩ := h2
  subst e
  refine wpAny_newObj_type (newEnv_comp ?_) (by show 0 ≤ sizeLine; decide)
  generalize hD : s2.heap.objs.size = D
  have hDn : H2 D = none := I2.hok.fresh (Nat.le_of_eq hD)
  obtain ⟨W, ⟨m0, w0⟩, turn⟩ := q D hDn
  generalize hs3 : ({ s2 with heap := s2.heap.push { cls := .type "list", data := .seq ([] : List Value).toArray } } : Shared) = s3
  have I3 : Inv X pins σ (upd H2 D (.lst [])) s3 := by
    rw [← hs3]
    refine I2.laid (t' := s2.toks) (fun b o e => Heap.get?_push_of_some _ e) (Nat.le_of_eq hD) ⟨Nat.zero_le _, [], 0, .nil, ?_⟩
    rw [← hD]
    exact Heap.get?_push_size _ rfl
  have h3 : s3.heap = s2.heap.push { cls := .type "list", data := .seq ([] : List Value).toArray } := by rw [← hs3]
  have sz : ∀ b ∈ fp, b < s2.heap.objs.size := fun b hb => by
    obtain ⟨o, e, _⟩ := T.obj _ _ st2 b hb
    exact Heap.lt_size e
  have f3 : ∀ b ∈ fp, FpOk X pins (upd H2 D (.lst [])) b ∧ b < s3.heap.objs.size := fun b hb => by
    have hlt := sz b hb
    refine ⟨⟨?_, (f2 b hb).2⟩, by rw [h3, Heap.size_push]; exact Nat.lt_succ_of_lt hlt⟩
    rw [upd_ne (by rw [← hD]; exact Nat.ne_of_lt hlt)]
    exact (f2 b hb).1
  have st3 : tn 0 s3.heap := T.keep _ _ _ st2 fun b _ o e => by rw [h3]; exact Heap.get?_push_of_some _ e
  have I4 := block_start I3 ok hN f3
  have pg := hg s3 (upd H2 D (.lst [])) s3.heap.objs.size (cellsFrom (s3.heap.objs.size + 1) scope.names (cloFrom X.env.cells scope.names [])) fp
  have pt := ht s3 (upd H2 D (.lst [])) s3.heap.objs.size (cellsFrom (s3.heap.objs.size + 1) scope.names (cloFrom X.env.cells scope.names [])) fp
  have pe := he s3 (upd H2 D (.lst [])) s3.heap.objs.size (cellsFrom (s3.heap.objs.size + 1) scope.names (cloFrom X.env.cells scope.names [])) fp
  show codeAny _ _ (.compStart (.ListComp elt [⟨tg, iter, ifs, 0⟩] scope pos) 0 (.ref it) (.ref D) (compEnvC scope (cellsFrom (s3.heap.objs.size + 1) scope.names (cloFrom X.env.cells scope.names [])) s3.heap.objs.size X.env)) (compPost (model X.prog X.w) X.A X.xe use Qf (.ref D) s3.heap.objs.size) { s3 with heap := pushCells (s3.heap.push { cls := .type "dict", data := .dict #[] }) scope.names }
  have nfp : ∀ b ∈ fp, (upd H2 D (.lst [])) b = none := fun b hb => (f3 b hb).1.1
  generalize hce : compEnvC scope (cellsFrom (s3.heap.objs.size + 1) scope.names (cloFrom X.env.cells scope.names [])) s3.heap.objs.size X.env = ce at I4 pg pt pe ⊢
  have cL : ce.locals = s3.heap.objs.size := by subst hce; rfl
  generalize hH3 : upd H2 D (.lst []) = H3 at I3 I4 pg pt pe w0 nfp f3
  generalize hs4 : ({ s3 with heap := pushCells (s3.heap.push { cls := .type "dict", data := .dict #[] }) scope.names } : Shared) = s4 at I4 ⊢
  have st4 : tn 0 s4.heap := T.keep _ _ _ st3 fun b _ o e => by rw [← hs4]; exact pushCells_keeps _ _ _ _ (Heap.get?_push_of_some _ e)
  have stat : ∀ {σ' : St} {H' : Hp} {s' : Shared}, Inv (X.blk s3 H3 scope ce fp) [] σ' H' s' → (∀ b ∈ fp, H' b = none) → ∀ b ∈ fp, FpOk (X.blk s3 H3 scope ce fp) [] H' b := fun {σ' H' s'} I' hn b hb =>
    ⟨hn b hb, (I'.ok.exf b hb).1, I'.ok.exfs b hb, .inl hb, fun x c e => (I'.ok.exf b hb).2 x c e, fun p hp => absurd (show p ∈ ([] : List (Addr × Obj)) ++ [] from hp) (by simp)⟩
  have loop : codeAny (model X.prog X.w) X.A (.compLoop (.ListComp elt [⟨tg, iter, ifs, 0⟩] scope pos) 0 (.ref it) (.ref D) ce) (compPost (model X.prog X.w) X.A X.xe use Qf (.ref D) s3.heap.objs.size) s4 := by
    refine compLoop_any (fun n s' => ∃ i H', Inv (X.blk s3 H3 scope ce fp) [] (wipe σ (own.map (·.2))) H' s' ∧ tn i s'.heap ∧ (∀ b ∈ fp, H' b = none) ∧ W i n H') ?_ m0 ⟨0, H3, I4, st4, nfp, w0⟩
    rintro n s5 ⟨i, H5, I5, st5, n5, w5⟩
    rcases turn i n H5 w5 with ⟨stop, qq⟩ | ⟨go, Nx, hNx, step⟩
    · have td := T.done (X.blk s3 H3 scope ce fp) rfl rfl rfl hc i [] s5 _ H5 (fun _ _ => False) I5 (stat I5 n5) st5 stop
      refine thnF td fun r s6 ⟨hr, I6⟩ => ?_
      subst hr
      have I7 : Inv X pins σ H5 s6 := I3.call' (ch := fp) I6.os I6.base I6.hok I6.bare fun b hb => ⟨(f3 b hb).1.2.2.2.1, (f3 b hb).1.2.1, (f3 b hb).1.2.2.2.2.1, (f3 b hb).1.2.2.2.2.2⟩
      have nC : H5 s3.heap.objs.size = none := by
        have z : H5 ce.locals = none := I6.free
        rw [cL] at z
        exact z
      obtain ⟨m, hn, _⟩ := I6.loc
      have hn : s6.heap.Ns ce.locals m := hn
      rw [cL] at hn
      exact hRR D s3.heap.objs.size s6 m H5 I7 qq hn (I3.fpOk (Nat.le_refl _) nC)
    · have ti := T.item (X.blk s3 H3 scope ce fp) rfl rfl rfl hc i [] s5 _ H5 (fun _ _ => False) I5 (stat I5 n5) st5 go
      refine thnF ti fun r s6 ⟨u, hr, h6⟩ => ?_
      subst hr
      refine thnF h6 fun _ s7 ⟨x, H7, I7, r7, y7, st7, n7⟩ => ?_
      have I7' := I7.pinned (stat I7 n7) (T.obj _ _ st7)
      refine thnF (pg _ s7 _ H7 x u _ I7' r7 (step x H7 y7)) fun _ s8 ⟨σ8, H8, I8, hw8, q8⟩ => ?_
      refine thnF (pt _ s8 σ8 H8 _ I8 q8) fun b s9 ⟨H9, I9, q9⟩ => ?_
      have fin : ∀ {s' : Shared} {H' : Hp}, Inv (X.blk s3 H3 scope ce fp) ([] ++ pinsAt fp s7.heap) σ8 H' s' → Nx H' → ∃ m, m < n ∧ ∃ i H', Inv (X.blk s3 H3 scope ce fp) [] (wipe σ (own.map (·.2))) H' s' ∧ tn i s'.heap ∧ (∀ b ∈ fp, H' b = none) ∧ W i m H' := fun {s' H'} I' nx => by
        obtain ⟨m', hm, w'⟩ := hNx H' nx
        have pin' : ∀ b ∈ fp, ∀ o, s7.heap.get? b = some o → s'.heap.get? b = some o ∧ H' b = none := fun b hb o e =>
          let z := I'.pin (b, o) (List.mem_append_right _ (List.mem_append_right _ (mem_pinsAt hb e)))
          ⟨z.1, z.2.1⟩
        have hl : (wipe σ (own.map (·.2))).length = σ8.length := by rw [← hw8, wipe_length]
        refine ⟨m', hm, i + 1, H', (I'.unpinned (pins := [])).weak hl (fun j v e => ?_), T.keep _ _ _ st7 fun b hb o e => (pin' b hb o e).1, fun b hb => ?_, w'⟩
        · rw [← hw8] at e
          exact (wipe_some e).1
        · obtain ⟨o, e, _⟩ := T.obj _ _ st7 b hb
          exact (pin' b hb o e).2
      cases b with
      | false =>
        simp only [Bool.false_eq_true, if_false] at q9 ⊢
        exact fin I9 q9
      | true =>
        simp only [if_true] at q9 ⊢
        refine thnF (pe _ s9 σ8 H9 _ I9 q9) fun z s10 ⟨yv, H10, I10, r10, acc, hD10, hz10, nx⟩ => ?_
        exact app_ok (X := X.blk s3 H3 scope ce fp) I10 hD10 hz10 r10 fun s11 I11 => fin I11 nx
  exact codeAny_compStart_list loop (T.self X.A 0 _ _ _ st4 loop)
theorem pe_lc {elt tg iter : Expr} {ifs : List Expr} {scope : Scope} {own : List (Str × Nat)} {pos : Pos} {wi : TI} {g : TG} {tt : TT} {te : TE} (hc : X.calm = true) (hN : X.N.Nodup) (hi : PI X tg iter wi) (ok : BlkOk X.N X.env.scope scope own)
    (hg : ∀ (s : Shared) (H : Hp) (C : Addr) (cl : List (Str × Addr)) (fp : List Addr), PG (X.blk s H scope (compEnvC scope cl C X.env) fp) tg g) (ht : ∀ (s : Shared) (H : Hp) (C : Addr) (cl : List (Str × Addr)) (fp : List Addr), PTs (X.blk s H scope (compEnvC scope cl C X.env) fp) ifs tt)
    (he : ∀ (s : Shared) (H : Hp) (C : Addr) (cl : List (Str × Addr)) (fp : List Addr), PE (X.blk s H scope (compEnvC scope cl C X.env) fp) elt te) (hs : ∀ x, foldedSetIterable iter X.env x = pure x := by intro _; rfl) :
    PE X (.ListComp elt [⟨tg, iter, ifs, 0⟩] scope pos) (tLc wi g tt te (own.map (·.2))) := by
  intro pins s σ H Q I h
  rw [eval_ListComp]
  refine lc_core hc hN I hi ok hg ht he hs h fun D C s' m H' I' q hn f => ⟨m, hn, fun h'' sb => ?_⟩
  obtain ⟨f0, f1, f2, f3, f4, f5⟩ := f
  exact ⟨.ref D, H', I'.turned (t' := s'.toks) (fun b o hb e => (sb.2 b hb).trans e) f0 f1 f3 f4 f5, rfl, q⟩
theorem ps_setLc {i : Nat} {y : Str} {py : Pos} {elt tg iter : Expr} {ifs : List Expr} {scope : Scope} {own : List (Str × Nat)} {pos spos : Pos} {wi : TI} {g : TG} {tt : TT} {te : TE} (hc : X.calm = true) (hN : X.N.Nodup) (hy : X.N[i]? = some y) (hyl : X.env.scope.names.lookup y = some .local)
    (hsw : swapsWith (.ListComp elt [⟨tg, iter, ifs, 0⟩] scope pos) (some (.Name y py)) spos.line X.env = pure true) (hi : PI X tg iter wi) (ok : BlkOk X.N X.env.scope scope own)
    (hg : ∀ (s : Shared) (H : Hp) (C : Addr) (cl : List (Str × Addr)) (fp : List Addr), PG (X.blk s H scope (compEnvC scope cl C X.env) fp) tg g) (ht : ∀ (s : Shared) (H : Hp) (C : Addr) (cl : List (Str × Addr)) (fp : List Addr), PTs (X.blk s H scope (compEnvC scope cl C X.env) fp) ifs tt)
    (he : ∀ (s : Shared) (H : Hp) (C : Addr) (cl : List (Str × Addr)) (fp : List Addr), PE (X.blk s H scope (compEnvC scope cl C X.env) fp) elt te) (hs : ∀ x, foldedSetIterable iter X.env x = pure x := by intro _; rfl) :
    PS X (.Assign [.Name y py] (.ListComp elt [⟨tg, iter, ifs, 0⟩] scope pos) spos) (tAsg (tLc wi g tt te (own.map (·.2))) (gName i)) := by
  intro pins s σ H D I h
  rw [exec_Assign_Name_used _ _ _ _ hsw]
  refine wpAny_bind (wpAny_standAt (wpAny_bind ?_))
  show wpAny _ X.A (do let _ ← comprehension (.ListComp elt [⟨tg, iter, ifs, 0⟩] scope pos) scope X.env (firstIterPos [⟨tg, iter, ifs, 0⟩] pos) (newList []) false (eval iter X.env) (some (assign (.Name y py) X.env))) _ _ s
  have h : tLc wi g tt te (own.map (·.2)) σ H (fun x H1 => gName i x σ H1 D.nx) := h
  refine wpAny_bind (thn (lc_core (Qf := fun _ s' => SP X pins D .next s') hc hN I hi ok hg ht he hs h fun L C s' m H' I' q hn f => ?_) fun _ s' hq => wpAny_pure (wpAny_pure hq))
  show wpAny _ _ (assign (.Name y py) X.env (.ref L)) _ _ _
  refine wpAny_assign_Name (store_ok2 (v := V.ref L) I' hN hy (.inl hyl) rfl (fun s2 I2 ⟨a, sb, ha⟩ => ?_) (.inr hyl))
  obtain ⟨f0, f1, f2, f3, f4, f5⟩ := f
  have haC : C ≠ a := by
    rcases ha with z | z
    · rw [z]; exact f1
    · exact fun e => f4 y a z e.symm
  refine ⟨m, hn.sameBut sb haC, fun h3 sb3 => ?_⟩
  exact ⟨_, H', I2.turned (t' := s2.toks) (fun b o hb e => (sb3.2 b hb).trans e) f0 f1 f3 f4 f5, q⟩
theorem sw_true {elt : Expr} {gs : List Comprehension} {scope : Scope} {pos py : Pos} {y : Str} {l : Nat} {env : Env} (hk : env.scope.kind = .function) (hy : env.scope.names.lookup y = some .local) (hl : (py.line == pos.line) = true)
    (ha : (scope.names.any fun (n, k) => n == y && (k == .local || k == .cell)) = false) : swapsWith (.ListComp elt gs scope pos) (some (.Name y py)) l env = pure true := by
  have ky : env.kindOf y = some .local := hy
  have hb : env.blockKind = .function := by unfold Env.blockKind; rw [hk]; rfl
  unfold swapsWith
  simp only [hb, ky, ha, Expr.pos, hl]
  rfl
end
theorem lc_range {lo : Int} {n : Nat} {g : TG} {tt : TT} {te : TE} {vs : List Nat} {σ : St} {H1 : Hp} {D : Addr} {Qd : Hp → Prop} (Pv : Nat → Hp → Prop) (h0 : Pv 0 (upd H1 D (.lst [])))
    (hs : ∀ i H, i < n → Pv i H → g (.int (lo + i)) (wipe σ vs) H fun σ2 H2 => wipe σ2 vs = wipe σ vs ∧ tt σ2 H2 fun b H3 =>
      if b = true then te σ2 H3 fun y H4 => ∃ acc, H4 D = some (.lst acc) ∧ acc.length < sizeLine ∧ Pv (i + 1) (upd H4 D (.lst (acc ++ [y]))) else Pv (i + 1) H3) (hd : ∀ H, Pv n H → Qd H) :
    ∃ W : Nat → Nat → Hp → Prop, (∃ m, W 0 m (upd H1 D (.lst []))) ∧ ∀ i m H, W i m H →
      ((Itr lo n).stop i H ∧ Qd H) ∨ ((Itr lo n).go i H ∧ ∃ Nx : Hp → Prop, (∀ H', Nx H' → ∃ m', m' < m ∧ W (i + 1) m' H') ∧ ∀ x H', (Itr lo n).yld i H x H' → g x (wipe σ vs) H' fun σ2 H2 => wipe σ2 vs = wipe σ vs ∧ tt σ2 H2 fun b H3 =>
        if b = true then te σ2 H3 fun y H4 => ∃ acc, H4 D = some (.lst acc) ∧ acc.length < sizeLine ∧ Nx (upd H4 D (.lst (acc ++ [y]))) else Nx H3) := by
  refine ⟨fun i m H => m = n - i ∧ i ≤ n ∧ Pv i H, ⟨n, by simp, Nat.zero_le _, h0⟩, ?_⟩
  rintro i m H ⟨rfl, hi, p⟩
  by_cases hlt : i < n
  · refine .inr ⟨hlt, Pv (i + 1), fun H' p' => ⟨n - (i + 1), by omega, rfl, hlt, p'⟩, fun x H' y => ?_⟩
    obtain ⟨e, y⟩ := y
    subst e y
    exact hs i _ hlt p
  · have e : i = n := by omega
    subst e
    exact .inl ⟨Nat.le_refl _, hd H p⟩
theorem lc_list {K : PySem.W.Frag} {a : Addr} {xs : List V} {g : TG} {tt : TT} {te : TE} {vs : List Nat} {σ : St} {H1 : Hp} {D : Addr} {Qd : Hp → Prop} (Pv : Nat → Hp → Prop) (h0 : Pv 0 (upd H1 D (.lst []))) (hl : ∀ i H, i ≤ xs.length → Pv i H → SqL K H a xs)
    (hs : ∀ i x H, xs[i]? = some x → Pv i H → g x (wipe σ vs) H fun σ2 H2 => wipe σ2 vs = wipe σ vs ∧ tt σ2 H2 fun b H3 =>
      if b = true then te σ2 H3 fun y H4 => ∃ acc, H4 D = some (.lst acc) ∧ acc.length < sizeLine ∧ Pv (i + 1) (upd H4 D (.lst (acc ++ [y]))) else Pv (i + 1) H3) (hd : ∀ H, Pv xs.length H → Qd H) :
    ∃ W : Nat → Nat → Hp → Prop, (∃ m, W 0 m (upd H1 D (.lst []))) ∧ ∀ i m H, W i m H →
      ((Itl K a).stop i H ∧ Qd H) ∨ ((Itl K a).go i H ∧ ∃ Nx : Hp → Prop, (∀ H', Nx H' → ∃ m', m' < m ∧ W (i + 1) m' H') ∧ ∀ x H', (Itl K a).yld i H x H' → g x (wipe σ vs) H' fun σ2 H2 => wipe σ2 vs = wipe σ vs ∧ tt σ2 H2 fun b H3 =>
        if b = true then te σ2 H3 fun y H4 => ∃ acc, H4 D = some (.lst acc) ∧ acc.length < sizeLine ∧ Nx (upd H4 D (.lst (acc ++ [y]))) else Nx H3) := by
  refine ⟨fun i m H => m = xs.length - i ∧ i ≤ xs.length ∧ Pv i H, ⟨xs.length, by simp, Nat.zero_le _, h0⟩, ?_⟩
  rintro i m H ⟨rfl, hi, p⟩
  have q := hl i H hi p
  by_cases hlt : i < xs.length
  · refine .inr ⟨⟨xs, xs[i], q, by simp [hlt]⟩, Pv (i + 1), fun H' p' => ⟨xs.length - (i + 1), by omega, rfl, hlt, p'⟩, fun x H' y => ?_⟩
    obtain ⟨e, y⟩ := y
    subst e
    exact hs i x _ (y xs q) p
  · have e : i = xs.length := by omega
    subst e
    exact .inl ⟨⟨xs, q, Nat.le_refl _⟩, hd H p⟩
theorem lc_tup {K : PySem.W.Frag} {a : Addr} {xs : List V} {g : TG} {tt : TT} {te : TE} {vs : List Nat} {σ : St} {H1 : Hp} {D : Addr} {Qd : Hp → Prop} (Pv : Nat → Hp → Prop) (h0 : Pv 0 (upd H1 D (.lst []))) (hl : ∀ i H, i ≤ xs.length → Pv i H → SqT K H a xs)
    (hs : ∀ i x H, xs[i]? = some x → Pv i H → g x (wipe σ vs) H fun σ2 H2 => wipe σ2 vs = wipe σ vs ∧ tt σ2 H2 fun b H3 =>
      if b = true then te σ2 H3 fun y H4 => ∃ acc, H4 D = some (.lst acc) ∧ acc.length < sizeLine ∧ Pv (i + 1) (upd H4 D (.lst (acc ++ [y]))) else Pv (i + 1) H3) (hd : ∀ H, Pv xs.length H → Qd H) :
    ∃ W : Nat → Nat → Hp → Prop, (∃ m, W 0 m (upd H1 D (.lst []))) ∧ ∀ i m H, W i m H →
      ((Itt K a).stop i H ∧ Qd H) ∨ ((Itt K a).go i H ∧ ∃ Nx : Hp → Prop, (∀ H', Nx H' → ∃ m', m' < m ∧ W (i + 1) m' H') ∧ ∀ x H', (Itt K a).yld i H x H' → g x (wipe σ vs) H' fun σ2 H2 => wipe σ2 vs = wipe σ vs ∧ tt σ2 H2 fun b H3 =>
        if b = true then te σ2 H3 fun y H4 => ∃ acc, H4 D = some (.lst acc) ∧ acc.length < sizeLine ∧ Nx (upd H4 D (.lst (acc ++ [y]))) else Nx H3) := by
  refine ⟨fun i m H => m = xs.length - i ∧ i ≤ xs.length ∧ Pv i H, ⟨xs.length, by simp, Nat.zero_le _, h0⟩, ?_⟩
  rintro i m H ⟨rfl, hi, p⟩
  have q := hl i H hi p
  by_cases hlt : i < xs.length
  · refine .inr ⟨⟨xs, xs[i], q, by simp [hlt]⟩, Pv (i + 1), fun H' p' => ⟨xs.length - (i + 1), by omega, rfl, hlt, p'⟩, fun x H' y => ?_⟩
    obtain ⟨e, y⟩ := y
    subst e
    exact hs i x _ (y xs q) p
  · have e : i = xs.length := by omega
    subst e
    exact .inl ⟨⟨xs, q, Nat.le_refl _⟩, hd H p⟩
def blkC (N : List Str) (sc scope : Scope) (own : List (Str × Nat)) : Bool :=
  (match scope.kind with | .function => true | _ => false) && (scope.names.all fun y => decide (scope.names.lookup y.1 = some y.2)) && (own.all fun p => decide (N[p.2]? = some p.1)) &&
    (scope.names.all fun y => match y.2 with
      | .free => (match sc.names.lookup y.1 with | some .cell => true | some .free => true | _ => false)
      | .local => decide (y.1 ∈ own.map (·.1)) || decide (y.1 ∉ N)
      | .cell => decide (y.1 ∈ own.map (·.1)) || decide (y.1 ∉ N)
      | _ => true)
theorem blkOk_by {N : List Str} {sc scope : Scope} {own : List (Str × Nat)} (h : blkC N sc scope own = true) : BlkOk N sc scope own := by
  unfold blkC at h
  simp only [Bool.and_eq_true, List.all_eq_true, decide_eq_true_eq] at h
  obtain ⟨⟨⟨h1, h2⟩, h3⟩, h4⟩ := h
  refine ⟨?_, h2, h3, fun y hy e => ?_, fun y hy e => ?_⟩
  · split at h1
    · assumption
    · cases h1
  · have q := h4 y hy
    simp only [e] at q
    split at q <;> first | exact .inl (by assumption) | exact .inr (by assumption) | cases q
  · have q := h4 y hy
    rcases e with e | e <;> (simp only [e, Bool.or_eq_true, decide_eq_true_eq] at q; exact q)
end L2
namespace L2
open PySem PySem.Spec PyProof.Rows
section
variable {κ : Type} [DecidableEq κ]
def valV (kvs : List (κ × V)) (k : κ) : Option V := (kvs.find? fun kv => decide (kv.1 = k)).map (·.2)
def putK (kvs : List (κ × V)) (k : κ) (v : V) : List (κ × V) :=
  if (kvs.any fun kv => decide (kv.1 = k)) = true then kvs.map (fun kv => if kv.1 = k then (kv.1, v) else kv) else kvs ++ [(k, v)]
def dropK (kvs : List (κ × V)) (k : κ) : List (κ × V) := kvs.filter fun kv => decide (kv.1 ≠ k)
theorem valV_pos {p : κ × V} {r : List (κ × V)} {k : κ} (e : p.1 = k) : valV (p :: r) k = some p.2 := by simp [valV, List.find?_cons, e]
theorem valV_neg {p : κ × V} {r : List (κ × V)} {k : κ} (e : ¬ p.1 = k) : valV (p :: r) k = valV r k := by simp [valV, List.find?_cons, e]
theorem valV_any (k : κ) : ∀ kvs : List (κ × V), (kvs.any fun kv => decide (kv.1 = k)) = (valV kvs k).isSome
  | [] => rfl
  | p :: r => by
    rw [List.any_cons]
    by_cases e : p.1 = k
    · simp only [valV_pos e, decide_eq_true e, Bool.true_or, Option.isSome_some]
    · rw [valV_neg e, decide_eq_false e, Bool.false_or]; exact valV_any k r
theorem valV_map (k j : κ) (y : V) : ∀ kvs : List (κ × V), valV (kvs.map fun kv => if kv.1 = k then (kv.1, y) else kv) j = (valV kvs j).map fun x => if j = k then y else x
  | [] => rfl
  | p :: r => by
    have ih := valV_map k j y r
    rw [List.map_cons]
    by_cases h : p.1 = k
    · rw [if_pos h]
      by_cases e : p.1 = j
      · rw [valV_pos (p := (p.1, y)) e, valV_pos e, Option.map_some, if_pos (e.symm.trans h)]
      · rw [valV_neg (p := (p.1, y)) e, valV_neg e, ih]
    · rw [if_neg h]
      by_cases e : p.1 = j
      · rw [valV_pos (p := p) e, valV_pos e, Option.map_some, if_neg (fun z => h (e.trans z))]
      · rw [valV_neg (p := p) e, valV_neg e, ih]
theorem valV_snoc (k j : κ) (y : V) : ∀ kvs : List (κ × V), valV kvs k = none → valV (kvs ++ [(k, y)]) j = if j = k then some y else valV kvs j
  | [], _ => by
    by_cases e : k = j
    · rw [if_pos e.symm]; exact valV_pos (p := (k, y)) e
    · rw [if_neg (fun z => e z.symm)]; exact valV_neg (p := (k, y)) e
  | p :: r, hn => by
    rw [List.cons_append]
    have hk : ¬ p.1 = k := fun z => by rw [valV_pos z] at hn; cases hn
    rw [valV_neg hk] at hn
    have ih := valV_snoc k j y r hn
    by_cases e : p.1 = j
    · rw [valV_pos e, valV_pos e, if_neg (fun z => hk (e.trans z))]
    · rw [valV_neg e, valV_neg e, ih]
theorem valV_put (kvs : List (κ × V)) (k j : κ) (y : V) : valV (putK kvs k y) j = if j = k then some y else valV kvs j := by
  unfold putK
  by_cases a : (kvs.any fun kv => decide (kv.1 = k)) = true
  · rw [if_pos a, valV_map]
    rw [valV_any] at a
    by_cases e : j = k
    · obtain ⟨x, hx⟩ := Option.isSome_iff_exists.mp a
      rw [if_pos e, e, hx, Option.map_some, if_pos rfl]
    · rw [if_neg e]
      cases valV kvs j with
      | none => rfl
      | some x => rw [Option.map_some, if_neg e]
  · rw [if_neg a]
    refine valV_snoc k j y kvs ?_
    rw [valV_any] at a
    cases q : valV kvs k with
    | none => rfl
    | some x => rw [q] at a; exact (a rfl).elim
theorem length_putK (kvs : List (κ × V)) (k : κ) (v : V) : (putK kvs k v).length ≤ kvs.length + 1 := by
  unfold putK
  split
  · rw [List.length_map]; omega
  · rw [List.length_append, List.length_cons, List.length_nil]; omega
theorem putK_new {kvs : List (κ × V)} {k : κ} (v : V) (h : valV kvs k = none) : putK kvs k v = kvs ++ [(k, v)] := by
  unfold putK
  rw [valV_any, h]
  exact if_neg (by decide)
theorem RelO.isSome_eq {o : Option V} {u : Option Value} (r : RelO o u) : o.isSome = u.isSome := by
  cases o with
  | none => cases u with
    | none => rfl
    | some _ => exact (show False from r).elim
  | some _ => cases u with
    | none => exact (show False from r).elim
    | some _ => rfl
theorem RelO.getD {o : Option V} {u : Option Value} {d : V} {d' : Value} (r : RelO o u) (rd : RelV d d') : RelV (o.getD d) (u.getD d') := by
  cases o with
  | none => cases u with
    | none => exact rd
    | some _ => exact (show False from r).elim
  | some _ => cases u with
    | none => exact (show False from r).elim
    | some _ => exact r
theorem KV.val {kvs : List (κ × V)} {vs : List (κ × Value)} (r : KV kvs vs) (k : κ) : RelO (valV kvs k) (valueAt vs k) := by
  unfold KV at r
  induction r with
  | nil => exact True.intro
  | @cons p q ps qs h t ih =>
    obtain ⟨h1, h2⟩ := h
    by_cases e : p.1 = k
    · have e' : q.1 = k := h1.symm.trans e
      have b : valueAt (q :: qs) k = some q.2 := by simp [valueAt, List.find?_cons, e']
      rw [valV_pos e, b]; exact h2
    · have e' : ¬ q.1 = k := fun z => e (h1.trans z)
      have b : valueAt (q :: qs) k = valueAt qs k := by simp [valueAt, List.find?_cons, e']
      rw [valV_neg e, b]; exact ih
theorem KV.any {kvs : List (κ × V)} {vs : List (κ × Value)} (r : KV kvs vs) (k : κ) : (kvs.any fun kv => decide (kv.1 = k)) = vs.any fun kv => decide (kv.1 = k) := by
  unfold KV at r
  induction r with
  | nil => rfl
  | cons h t ih => rw [List.any_cons, List.any_cons, ih, h.1]
theorem KV.repl {kvs : List (κ × V)} {vs : List (κ × Value)} (r : KV kvs vs) (k : κ) {y : V} {u : Value} (ry : RelV y u) :
    KV (kvs.map fun kv => if kv.1 = k then (kv.1, y) else kv) (vs.map fun kv => if kv.1 = k then (kv.1, u) else kv) := by
  unfold KV at r ⊢
  induction r with
  | nil => exact .nil
  | @cons p q ps qs h t ih =>
    rw [List.map_cons, List.map_cons]
    refine .cons ?_ ih
    obtain ⟨h1, h2⟩ := h
    by_cases e : p.1 = k
    · rw [if_pos e, if_pos (h1.symm.trans e)]; exact ⟨h1, ry⟩
    · rw [if_neg e, if_neg (fun z => e (h1.trans z))]; exact ⟨h1, h2⟩
theorem KV.put {kvs : List (κ × V)} {vs : List (κ × Value)} (r : KV kvs vs) (k : κ) {y : V} {u : Value} (ry : RelV y u) : KV (putK kvs k y) (stored vs k u) := by
  unfold putK stored
  rw [r.any k]
  by_cases e : (vs.any fun kv => decide (kv.1 = k)) = true
  · rw [if_pos e, if_pos e]; exact r.repl k ry
  · rw [if_neg e, if_neg e]; exact Paired.snoc r ⟨rfl, ry⟩
theorem KV.drop {kvs : List (κ × V)} {vs : List (κ × Value)} (r : KV kvs vs) (k : κ) : KV (dropK kvs k) (without vs k) := by
  unfold KV at r ⊢
  unfold dropK without
  induction r with
  | nil => exact .nil
  | @cons p q ps qs h t ih =>
    obtain ⟨h1, h2⟩ := h
    rw [List.filter_cons, List.filter_cons]
    by_cases e : p.1 = k
    · have a : ¬ decide (p.1 ≠ k) = true := by simp [e]
      have b : ¬ decide (q.1 ≠ k) = true := by simp [h1.symm.trans e]
      rw [if_neg a, if_neg b]; exact ih
    · have e' : ¬ q.1 = k := fun z => e (h1.trans z)
      have a : decide (p.1 ≠ k) = true := by simp [e]
      have b : decide (q.1 ≠ k) = true := by simp [e']
      rw [if_pos a, if_pos b]; exact .cons ⟨h1, h2⟩ ih
theorem KV.keys {kvs : List (κ × V)} {vs : List (κ × Value)} (r : KV kvs vs) : kvs.map (·.1) = vs.map (·.1) := by
  unfold KV at r
  induction r with
  | nil => rfl
  | cons h t ih => rw [List.map_cons, List.map_cons, ih, h.1]
theorem KV.length {kvs : List (κ × V)} {vs : List (κ × Value)} (r : KV kvs vs) : kvs.length = vs.length := Paired.length r
end
theorem kV_is {P : Program} {w : World} {k : Key} {u : Value} (r : RelV (kV k) u) : (mixKind P w).is k u = true := by
  cases k with
  | inl i => obtain ⟨t, e⟩ := (show ∃ t, u = Value.int i t from r); subst e; exact mixKind_int P w i t
  | inr x => obtain ⟨t, e⟩ := (show ∃ t, u = Value.str x t from r); subst e; exact mixKind_str P w x t
theorem items_are {P : Program} {w : World} : ∀ {ks : List Key} {us : List Value}, Vals (ks.map kV) us → ItemsAre (mixKind P w) ks us
  | [], _, r => by rw [List.map_nil] at r; cases r; exact .nil
  | k :: ks, _, r => by
    rw [List.map_cons] at r
    cases r with
    | cons h t => exact .cons (kV_is h) (items_are t)
abbrev KT (H : Hp) : List (List Key × V) → List (List Key × Addr × Value) → Prop := Paired fun p q => p.1 = q.1 ∧ H q.2.1 = some (.tup (p.1.map kV)) ∧ RelV p.2 q.2.2
theorem KT.val {H : Hp} {kvs : List (List Key × V)} {xs : List (List Key × Addr × Value)} (r : KT H kvs xs) (k : List Key) : RelO (valV kvs k) ((atKey xs k).map (·.2)) := by
  induction r with
  | nil => exact True.intro
  | @cons p q ps qs h t ih =>
    obtain ⟨h1, _, h2⟩ := h
    by_cases e : p.1 = k
    · have e' : q.1 = k := h1.symm.trans e
      have b : atKey (q :: qs) k = some q.2 := by simp [atKey, List.find?_cons, e']
      rw [valV_pos e, b]; exact h2
    · have e' : ¬ q.1 = k := fun z => e (h1.trans z)
      have b : atKey (q :: qs) k = atKey qs k := by simp [atKey, List.find?_cons, e']
      rw [valV_neg e, b]; exact ih
theorem KT.repl {H : Hp} {kvs : List (List Key × V)} {xs : List (List Key × Addr × Value)} (r : KT H kvs xs) (k : List Key) {y : V} {u : Value} (ry : RelV y u) :
    KT H (kvs.map fun kv => if kv.1 = k then (kv.1, y) else kv) (xs.map (putAt k u)) := by
  induction r with
  | nil => exact .nil
  | @cons p q ps qs h t ih =>
    rw [List.map_cons, List.map_cons]
    refine .cons ?_ ih
    obtain ⟨h1, h2, h3⟩ := h
    unfold putAt
    by_cases e : p.1 = k
    · rw [if_pos e, if_pos (h1.symm.trans e)]; exact ⟨h1, h2, ry⟩
    · rw [if_neg e, if_neg (fun z => e (h1.trans z))]; exact ⟨h1, h2, h3⟩
theorem KT.put {H : Hp} {kvs : List (List Key × V)} {xs : List (List Key × Addr × Value)} (r : KT H kvs xs) (k : List Key) {b : Addr} {y : V} {u : Value} (hb : H b = some (.tup (k.map kV))) (ry : RelV y u) :
    KT H (putK kvs k y) (storedH xs k b u) := by
  have e : (kvs.any fun kv => decide (kv.1 = k)) = (atKey xs k).isSome := by
    rw [valV_any, (r.val k).isSome_eq, Option.isSome_map]
  unfold putK storedH
  rw [e]
  by_cases q : (atKey xs k).isSome = true
  · rw [if_pos q, if_pos q]; exact r.repl k ry
  · rw [if_neg q, if_neg q]; exact Paired.snoc r ⟨rfl, hb, ry⟩
theorem KT.keeps {H H' : Hp} {kvs : List (List Key × V)} {xs : List (List Key × Addr × Value)} (r : KT H kvs xs) (ht : ∀ b ys, H b = some (.tup ys) → H' b = some (.tup ys)) : KT H' kvs xs :=
  Paired.mapP r fun _ _ z => ⟨z.1, ht _ _ z.2.1, z.2.2⟩
section
variable {P : Program} {w : World} {H : Hp} {h : Heap} {a : Addr}
theorem rd_of {u : HO} (ok : HOk P w H h) (e : Rd H a u) : ObjOk P w H h a u := e.ok ok
theorem dk_rd {kvs : List (Key × V)} (ok : HOk P w H h) (e : Rd H a (.dK kvs)) : kvs.length ≤ sizeLine ∧ (a == sysModules) = false ∧ ∃ vs, KV kvs vs ∧ h.DictOf (mixKind P w) a vs :=
  show ObjOk P w H h a (.dK kvs) from rd_of ok e
theorem dk_of {kvs : List (Key × V)} (ok : HOk P w H h) (e : H a = some (.dK kvs)) : kvs.length ≤ sizeLine ∧ (a == sysModules) = false ∧ ∃ vs, KV kvs vs ∧ h.DictOf (mixKind P w) a vs := dk_rd ok (.inl e)
theorem key_of {ks : List Key} (ok : HOk P w H h) (e : H a = some (.tup (ks.map kV))) : (tupleKind (mixKind P w)).is h ks a := by
  obtain ⟨_, its, r, o, h1, h2, n, h3⟩ := (show ObjOk P w H h a (.tup (ks.map kV)) from ok a _ e)
  exact ⟨o, its.toArray, n, h1, h2, h3, by simpa using items_are r⟩
theorem dt_rd {kvs : List (List Key × V)} (ok : HOk P w H h) (e : Rd H a (.dT kvs)) : kvs.length ≤ sizeLine ∧ (a == sysModules) = false ∧
    ∃ xs, KT H kvs xs ∧ h.DictOfH (tupleKind (mixKind P w)) a xs := by
  obtain ⟨z, y, xs, r, o, es, ep, h1, h2, h3, h4, h5⟩ := (show ObjOk P w H h a (.dT kvs) from rd_of ok e)
  refine ⟨z, y, xs, r, o, es, ep, h1, h2, h3, h4, fun x hx => ?_, h5⟩
  have all : ∀ {l : List (List Key × V)} {m : List (List Key × Addr × Value)}, KT H l m → ∀ x ∈ m, (tupleKind (mixKind P w)).is h x.1 x.2.1 := by
    intro l m q
    induction q with
    | nil => intro x hx; exact nomatch hx
    | @cons p q ps qs hq t ih =>
      intro x hx
      rcases List.mem_cons.mp hx with e | hx
      · subst e
        exact key_of ok (by rw [← hq.1]; exact hq.2.1)
      · exact ih x hx
  exact all r x hx
theorem dt_of {kvs : List (List Key × V)} (ok : HOk P w H h) (e : H a = some (.dT kvs)) : kvs.length ≤ sizeLine ∧ (a == sysModules) = false ∧
    ∃ xs, KT H kvs xs ∧ h.DictOfH (tupleKind (mixKind P w)) a xs := dt_rd ok (.inl e)
end
def DGet (H : Hp) (a : Addr) (y : V) (r : Option V) : Prop :=
  (∃ kvs k, Rd H a (.dK kvs) ∧ y = kV k ∧ r = valV kvs k) ∨ ∃ kvs k b, Rd H a (.dT kvs) ∧ y = .ref b ∧ H b = some (.tup (k.map kV)) ∧ r = valV kvs k
def DPut (H : Hp) (a : Addr) (y v : V) (H' : Hp) : Prop :=
  (∃ kvs k, H a = some (.dK kvs) ∧ y = kV k ∧ kvs.length < sizeLine ∧ H' = upd H a (.dK (putK kvs k v))) ∨
  ∃ kvs k b, H a = some (.dT kvs) ∧ y = .ref b ∧ H b = some (.tup (k.map kV)) ∧ kvs.length < sizeLine ∧ H' = upd H a (.dT (putK kvs k v))
theorem DGet.k {H : Hp} {a : Addr} {kvs : List (Key × V)} {k : Key} (e : H a = some (.dK kvs)) : DGet H a (kV k) (valV kvs k) := .inl ⟨kvs, k, .inl e, rfl, rfl⟩
theorem DGet.t {H : Hp} {a b : Addr} {kvs : List (List Key × V)} {k : List Key} (e : H a = some (.dT kvs)) (eb : H b = some (.tup (k.map kV))) : DGet H a (.ref b) (valV kvs k) := .inr ⟨kvs, k, b, .inl e, rfl, eb, rfl⟩
theorem DPut.k {H : Hp} {a : Addr} {kvs : List (Key × V)} {k : Key} {v : V} (e : H a = some (.dK kvs)) (hl : kvs.length < sizeLine) : DPut H a (kV k) v (upd H a (.dK (putK kvs k v))) := .inl ⟨kvs, k, e, rfl, hl, rfl⟩
theorem DPut.t {H : Hp} {a b : Addr} {kvs : List (List Key × V)} {k : List Key} {v : V} (e : H a = some (.dT kvs)) (eb : H b = some (.tup (k.map kV))) (hl : kvs.length < sizeLine) :
    DPut H a (.ref b) v (upd H a (.dT (putK kvs k v))) := .inr ⟨kvs, k, b, e, rfl, eb, hl, rfl⟩
section
variable {X : Cx} {pins : List (Addr × Obj)} {σ : St} {H : Hp} {s : Shared} {a : Addr} {y v : V} {u r : Value} {o : Option V} {A : Around} {E : Value → Shared → Prop}
theorem Inv.big (I : Inv X pins σ H s) : sysModules < s.heap.objs.size := by
  have h : mainGlobals < s.heap.objs.size := (I.mod.glob.keeps I.bk).lt
  exact Nat.lt_trans (by decide) h
theorem d_getItem {Q : Value → Shared → Prop} (hu : A.units + 1 < cLine) (I : Inv X pins σ H s) (g : DGet H a y (some v)) (ry : RelV y u) (h : ∀ w' s', Inv X pins σ H s' → RelV v w' → Q w' s') :
    wpAny (model X.prog X.w) A (getItem (.ref a) u) Q E s := by
  rcases g with ⟨kvs, k, e, ey, l⟩ | ⟨kvs, k, b, e, ey, eb, l⟩
  · subst ey
    obtain ⟨z, hd, vs, rel, dd⟩ := dk_rd I.hok e
    obtain ⟨w', hw, rw'⟩ := RelO.some_of (v := v) (o := valueAt vs k) (by rw [l]; exact rel.val k)
    exact wpAny_getItem_of (kV_is ry) dd.mapOf hw (h w' _ (I.tok _) rw')
  · subst ey
    cases (show u = Value.ref b from ry)
    obtain ⟨z, hd, xs, rel, dd⟩ := dt_rd I.hok e
    obtain ⟨w', hw, rw'⟩ := RelO.some_of (v := v) (o := (atKey xs k).map (·.2)) (by rw [l]; exact rel.val k)
    obtain ⟨p, hp, hp2⟩ := Option.map_eq_some_iff.mp hw
    refine wpAny_getItem_heap (tupleKind_room_in1 hu) (key_of I.hok eb) dd hp ?_
    rw [hp2]
    exact h w' _ (I.tok _) rw'
theorem d_in {Q : Value → Shared → Prop} (hu : A.units + 1 < cLine) (I : Inv X pins σ H s) (g : DGet H a y o) (ry : RelV y u) (h : ∀ s', Inv X pins σ H s' → Q (.bool o.isSome) s') :
    wpAny (model X.prog X.w) A (compareOp .In u (.ref a)) Q E s := by
  rcases g with ⟨kvs, k, e, ey, l⟩ | ⟨kvs, k, b, e, ey, eb, l⟩
  · subst ey
    obtain ⟨z, hd, vs, rel, dd⟩ := dk_rd I.hok e
    refine wpAny_in_of (kV_is ry) hd dd.mapOf ?_
    rw [← (rel.val k).isSome_eq, ← l]
    exact h _ (I.tok _)
  · subst ey
    cases (show u = Value.ref b from ry)
    obtain ⟨z, hd, xs, rel, dd⟩ := dt_rd I.hok e
    refine wpAny_in_heap (tupleKind_room_in1 hu) (key_of I.hok eb) hd dd ?_
    have q := (rel.val k).isSome_eq
    rw [Option.isSome_map] at q
    rw [← q, ← l]
    exact h _ (I.tok _)
theorem d_notIn {Q : Value → Shared → Prop} (hu : A.units + 1 < cLine) (I : Inv X pins σ H s) (g : DGet H a y o) (ry : RelV y u) (h : ∀ s', Inv X pins σ H s' → Q (.bool (!o.isSome)) s') :
    wpAny (model X.prog X.w) A (compareOp .NotIn u (.ref a)) Q E s := by
  rcases g with ⟨kvs, k, e, ey, l⟩ | ⟨kvs, k, b, e, ey, eb, l⟩
  · subst ey
    obtain ⟨z, hd, vs, rel, dd⟩ := dk_rd I.hok e
    refine wpAny_notIn_of (kV_is ry) hd dd.mapOf ?_
    rw [← (rel.val k).isSome_eq, ← l]
    exact h _ (I.tok _)
  · subst ey
    cases (show u = Value.ref b from ry)
    obtain ⟨z, hd, xs, rel, dd⟩ := dt_rd I.hok e
    refine wpAny_notIn_heap (tupleKind_room_in1 hu) (key_of I.hok eb) hd dd ?_
    have q := (rel.val k).isSome_eq
    rw [Option.isSome_map] at q
    rw [← q, ← l]
    exact h _ (I.tok _)
theorem d_write {h' : Heap} {t' : Nat} {ob : HO} (I : Inv X pins σ H s) (mu : Mut (H a)) (hs : Heap.SameBut a s.heap h') (he : ∃ q, h'.get? a = some q) (new : ObjOk X.prog X.w (upd H a ob) h' a ob) :
    Inv X pins σ (upd H a ob) { s with heap := h', toks := t' } :=
  I.write (x := a) (e := a) mu (.inl rfl) (fun b q hb z => (hs.2 b hb).trans z) he new
theorem dk_new {P : Program} {w : World} {H' : Hp} {h' : Heap} {kvs : List (Key × V)} {vs : List (Key × Value)} (z : kvs.length ≤ sizeLine) (hd : (a == sysModules) = false) (rel : KV kvs vs) (dd : h'.DictOf (mixKind P w) a vs) :
    ObjOk P w H' h' a (.dK kvs) := ⟨z, hd, vs, rel, dd⟩
theorem d_setItem {H' : Hp} {Q : Unit → Shared → Prop} (hu : A.units + 1 < cLine) (I : Inv X pins σ H s) (g : DPut H a y v H') (ry : RelV y u) (rv : RelV v r) (h : ∀ s', Inv X pins σ H' s' → Q () s') :
    wpAny (model X.prog X.w) A (setItem (.ref a) u r) Q E s := by
  rcases g with ⟨kvs, k, e, ey, l, eH⟩ | ⟨kvs, k, b, e, ey, eb, l, eH⟩
  · subst ey eH
    obtain ⟨z, hd, vs, rel, dd⟩ := dk_of I.hok e
    have hz : vs.length ≤ sizeLine := by rw [← rel.length]; exact z
    have hl : (putK kvs k v).length ≤ sizeLine := by have := length_putK kvs k v; omega
    refine wpAny_setItem_pairs (hsz := hz) (kV_is ry) dd fun h' dd' hs => h _ ?_
    have he : ∃ q, h'.get? a = some q := let ⟨q, _, _, hq, _⟩ := dd'; ⟨q, hq⟩
    exact d_write I (by rw [e]; exact True.intro) hs he (dk_new hl hd (rel.put k rv) dd')
  · subst ey eH
    cases (show u = Value.ref b from ry)
    obtain ⟨z, hd, xs, rel, dd⟩ := dt_of I.hok e
    have hz : xs.length ≤ sizeLine := by rw [← Paired.length rel]; exact z
    have hl : (putK kvs k v).length ≤ sizeLine := by have := length_putK kvs k v; omega
    refine wpAny_setItem_heap (hsz := hz) (tupleKind_room_in1 hu) (key_of I.hok eb) dd fun h' dd' hs => h _ ?_
    obtain ⟨q, es, ep, hq, h2, h3, h4, _, h5⟩ := dd'
    refine d_write I (by rw [e]; exact True.intro) hs ⟨q, hq⟩ ⟨hl, hd, _, (rel.put k eb rv).keeps fun c ys ec => ?_, q, es, ep, hq, h2, h3, h4, h5⟩
    rw [upd_ne (ne_of ec e (fun z => nomatch z))]
    exact ec
end
section
variable {X : Cx} {pins : List (Addr × Obj)} {σ : St} {H : Hp} {s : Shared} {a : Addr} {kvs : List (Key × V)} {k : Key} {u : Value} {A : Around} {E : Value → Shared → Prop}
theorem d_len {Q : Value → Shared → Prop} (I : Inv X pins σ H s) (e : Rd H a (.dK kvs)) (h : ∀ t s', Inv X pins σ H s' → Q (.int kvs.length t) s') : wpAny (model X.prog X.w) A (call (.builtin "len") [.ref a]) Q E s := by
  obtain ⟨z, hd, vs, rel, dd⟩ := dk_rd I.hok e
  refine call_len_dict hd dd (by rw [← rel.length]; rw [sizeLine_eq] at z; omega) ?_
  rw [← rel.length]
  exact h _ _ (I.tok _)
end
def NoSl (i : Expr) : Prop := ∀ ov iv, subscripted i false ov iv = operate [ov, iv] (getItem ov iv)
theorem subD_of {prog : Program} {w : World} {A : Around} {E : Value → Shared → Prop} {s : Shared} {env : Env} {value slice : Expr} {pos : Pos} {T id : String} {Q : Value → Shared → Prop}
    (hl : typeLookup (.type T) "__getitem__" = pure (some (.builtin id))) (hs : NoSl slice)
    (h : wpAny (model prog w) A (eval value env) (fun o s₁ => wpAny (model prog w) A (eval slice env) (fun i s₂ => s₂.TypeIs o T ∧ wpAny (model prog w) A (getItem o i) Q E s₂) E s₁) E s) :
    wpAny (model prog w) A (eval (.Subscript value slice pos) env) Q E s := by
  refine Subscript_ (wpAny_mono h (fun o s₁ h₁ => wpAny_mono h₁ (fun i s₂ h₂ => ?_) fun _ _ x => x) fun _ _ x => x)
  obtain ⟨hT, h₂⟩ := h₂
  unfold subscriptTail
  refine wpAny_bind ?_
  rw [getitemInPython_of_ne hT.not_modules]
  refine wpAny_bind (wpAny_specialOf hT hl ?_)
  have fin : wpAny (model prog w) A (subscripted slice false o i) (fun r s₃ => wpAny (model prog w) A (letTemporaryGo value o r >>= fun _ => pure r) Q E s₃) E s₂ := by
    rw [hs o i]
    exact wpAny_operating (wpAny_mono h₂ (fun r s₃ h₃ => wpAny_bind (wpAny_letTemporaryGo (wpAny_pure h₃))) fun _ _ x => x)
  first
    | exact wpAny_pure (wpAny_bind fin)
    | exact wpAny_bind (wpAny_pure (wpAny_bind fin))
    | exact wpAny_bind fin
theorem dict_typeIs {X : Cx} {pins : List (Addr × Obj)} {σ : St} {H : Hp} {s : Shared} {a : Addr} {y : V} {o : Option V} (I : Inv X pins σ H s) (g : DGet H a y o) : s.TypeIs (.ref a) "dict" := by
  rcases g with ⟨kvs, k, e, _, _⟩ | ⟨kvs, k, b, e, _, _, _⟩
  · obtain ⟨_, _, vs, _, dd⟩ := dk_rd I.hok e
    exact dd.typeIs
  · obtain ⟨_, _, xs, _, dd⟩ := dt_rd I.hok e
    exact dd.typeIs
def tDGet (td ty : TE) : TE := fun σ H Q => td σ H fun x H1 => ty σ H1 fun y H2 => ∃ a v, x = .ref a ∧ DGet H2 a y (some v) ∧ Q v H2
def tDIn (ty td : TE) : TE := fun σ H Q => ty σ H fun y H1 => td σ H1 fun x H2 => ∃ a o, x = .ref a ∧ DGet H2 a y o ∧ Q (.bl o.isSome) H2
def tDNotIn (ty td : TE) : TE := fun σ H Q => ty σ H fun y H1 => td σ H1 fun x H2 => ∃ a o, x = .ref a ∧ DGet H2 a y o ∧ Q (.bl (!o.isSome)) H2
def sDPut (td ty tv : TE) : TS := fun D σ H => tv σ H fun v H1 => td σ H1 fun x H2 => ty σ H2 fun y H3 => ∃ a H4, x = .ref a ∧ DPut H3 a y v H4 ∧ D.nx σ H4
section
variable {X : Cx} {o i e value : Expr} {pos pos' tpos : Pos} {td ty tv : TE}
theorem pe_dget (hu : X.A.units + 1 < cLine) (ho : PE X o td) (hi : PE X i ty) (hs : NoSl i) : PE X (.Subscript o i pos) (tDGet td ty) := by
  intro pins s σ H Q I h
  refine subD_of PySem.F.slot_dict_getitem.lookup hs (thn (ho pins s σ H _ I h) fun u s1 ⟨x, H1, I1, rx, q1⟩ => thn (hi pins s1 σ H1 _ I1 q1) fun iv s2 ⟨y, H2, I2, ry, a, v, ex, g, q2⟩ => ?_)
  subst ex
  obtain rfl : u = Value.ref a := rx
  exact ⟨dict_typeIs I2 g, d_getItem hu I2 g ry fun w' s3 I3 rw' => ⟨v, H2, I3, rw', q2⟩⟩
theorem pc_din (hu : X.A.units + 1 < cLine) (hi : PE X i ty) (ho : PE X o td) : PC X .In i o (tDIn ty td) := by
  intro pins s σ H Q I h
  refine thn (hi pins s σ H _ I h) fun iv s1 ⟨y, H1, I1, ry, q1⟩ => thn (ho pins s1 σ H1 _ I1 q1) fun u s2 ⟨x, H2, I2, rx, a, ov, ex, g, q2⟩ => ?_
  subst ex
  obtain rfl : u = Value.ref a := rx
  exact d_in hu I2 g ry fun s3 I3 => ⟨.bl ov.isSome, H2, I3, rfl, q2⟩
theorem pc_dnotin (hu : X.A.units + 1 < cLine) (hi : PE X i ty) (ho : PE X o td) : PC X .NotIn i o (tDNotIn ty td) := by
  intro pins s σ H Q I h
  refine thn (hi pins s σ H _ I h) fun iv s1 ⟨y, H1, I1, ry, q1⟩ => thn (ho pins s1 σ H1 _ I1 q1) fun u s2 ⟨x, H2, I2, rx, a, ov, ex, g, q2⟩ => ?_
  subst ex
  obtain rfl : u = Value.ref a := rx
  exact d_notIn hu I2 g ry fun s3 I3 => ⟨.bl (!ov.isSome), H2, I3, rfl, q2⟩
theorem ps_dput (hu : X.A.units + 1 < cLine) (ho : PE X o td) (hi : PE X i ty) (hv : PE X value tv) (hs : swapsWith value (some (.Subscript o i pos')) pos.line X.env = pure false) :
    PS X (.Assign [.Subscript o i pos'] value pos) (sDPut td ty tv) := by
  intro pins s σ H D I h
  refine wpAny_Assign_Subscript (thn (hv pins s σ H _ I h) fun r s1 ⟨v, H1, I1, rv, q1⟩ => thn (ho pins s1 σ H1 _ I1 q1) fun u s2 ⟨x, H2, I2, rx, q2⟩ => thn (hi pins s2 σ H2 _ I2 q2) fun iv s3 ⟨y, H3, I3, ry, a, H4, ex, g, q3⟩ => ?_) hs
  subst ex
  obtain rfl : u = Value.ref a := rx
  exact d_setItem hu I3 g ry rv fun s4 I4 => ⟨σ, H4, I4, q3⟩
end
theorem dk_empty {P : Program} {w : World} {H : Hp} (h : Heap) (hb : sysModules < h.objs.size) : ObjOk P w H (h.push { cls := .type "dict", data := .dict #[] }) h.objs.size (.dK []) :=
  ⟨Nat.zero_le _, beq_eq_false_iff_ne.mpr (Ne.symm (Nat.ne_of_lt hb)), [], .nil, Heap.DictOf.new h⟩
def tDNewK : TE := fun _ H Q => ∀ p, H p = none → Q (.ref p) (upd H p (.dK []))
section
variable {X : Cx} {pos : Pos}
theorem pe_dnewK : PE X (.Dict [] [] pos) tDNewK := fun pins s σ H Q I h =>
  wpAny_Dict_empty ⟨.ref s.heap.objs.size, _, I.laid (a := s.heap.objs.size) (o := .dK []) (t' := s.toks) (fun _ _ q => Heap.get?_push_of_some _ q) (Nat.le_refl _) (dk_empty s.heap I.big), rfl, h _ (I.hok.fresh (Nat.le_refl _))⟩
end
def tPairs : List (TE × TE) → St → Hp → (List (V × V) → Hp → Prop) → Prop
  | [], _, H, Q => Q [] H
  | (tk, tv) :: r, σ, H, Q => tk σ H fun x H1 => tv σ H1 fun y H2 => tPairs r σ H2 fun ps H3 => Q ((x, y) :: ps) H3
abbrev VV : List (V × V) → List (Value × Value) → Prop := Paired fun p q => RelV p.1 q.1 ∧ RelV p.2 q.2
def PPs (X : Cx) (pos : Pos) (keys : List (Option Expr)) (values : List Expr) (trs : List (TE × TE)) : Prop :=
  ∀ (pins : List (Addr × Obj)) (s : Shared) (σ : St) (H : Hp) (Q : List (V × V) → Hp → Prop), Inv X pins σ H s → tPairs trs σ H Q →
    wpAny (model X.prog X.w) X.A (evalPairs (pairTrees keys values X.env pos)) (fun vs s' => ∃ ps H', Inv X pins σ H' s' ∧ VV ps vs ∧ Q ps H') X.xe s
theorem pps_nil {X : Cx} {pos : Pos} : PPs X pos [] [] [] := fun pins s σ H Q I h => pairTrees_nil_walk ⟨[], H, I, .nil, h⟩
theorem pps_cons {X : Cx} {pos : Pos} {k v : Expr} {ks : List (Option Expr)} {vs : List Expr} {tk tv : TE} {trs : List (TE × TE)} (hk : PE X k tk) (hv : PE X v tv) (hr : PPs X pos ks vs trs) :
    PPs X pos (some k :: ks) (v :: vs) ((tk, tv) :: trs) := fun pins s σ H Q I h =>
  pairTrees_cons_walk (thn (hk pins s σ H _ I h) fun u s1 ⟨x, H1, I1, rx, q1⟩ => thn (hv pins s1 σ H1 _ I1 q1) fun w2 s2 ⟨y, H2, I2, ry, q2⟩ =>
    thn (hr pins s2 σ H2 _ I2 q2) fun ws s3 ⟨ps, H3, I3, rel, q3⟩ => ⟨(x, y) :: ps, H3, I3, .cons ⟨rx, ry⟩ rel, q3⟩)
def mergeK (kvs more : List (Key × V)) : List (Key × V) := more.foldl (fun acc kv => putK acc kv.1 kv.2) kvs
theorem KV.merge : ∀ {more : List (Key × V)} {rs : List (Key × Value)} {kvs : List (Key × V)} {vs : List (Key × Value)}, KV more rs → KV kvs vs → KV (mergeK kvs more) (merged vs rs) := by
  intro more rs kvs vs r
  unfold KV at r
  induction r generalizing kvs vs with
  | nil => intro q; exact q
  | @cons p q ps qs h t ih =>
    intro r0
    have e : KV (putK kvs p.1 p.2) (stored vs q.1 q.2) := by
      have := r0.put p.1 h.2
      rw [← h.1]; exact this
    exact ih e
theorem length_mergeK : ∀ (more kvs : List (Key × V)), (mergeK kvs more).length ≤ kvs.length + more.length
  | [], kvs => by show kvs.length ≤ kvs.length + 0; omega
  | p :: r, kvs => by
    have h1 := length_mergeK r (putK kvs p.1 p.2)
    have h2 := length_putK kvs p.1 p.2
    show (mergeK (putK kvs p.1 p.2) r).length ≤ _
    rw [List.length_cons]; omega
theorem carries_of {P : Program} {w : World} : ∀ {kvs : List (Key × V)} {ws : List (Value × Value)}, VV (kvs.map fun kv => (kV kv.1, kv.2)) ws → ∃ rs, Carries (mixKind P w) ws rs ∧ KV kvs rs
  | [], _, r => by rw [List.map_nil] at r; cases r; exact ⟨[], True.intro, .nil⟩
  | p :: kvs, _, r => by
    rw [List.map_cons] at r
    cases r with
    | @cons a b as bs h t =>
      obtain ⟨rs, c, q⟩ := carries_of (P := P) (w := w) t
      obtain ⟨b1, b2⟩ := b
      exact ⟨(p.1, b2) :: rs, ⟨kV_is h.1, rfl, c⟩, .cons ⟨rfl, h.2⟩ q⟩
def tDisp (trs : List (TE × TE)) : TE := fun σ H Q => ∀ p, H p = none → tPairs trs σ (upd H p (.dK [])) fun ps H2 => H2 p = some (.dK []) ∧ ∃ kvs : List (Key × V), ps = kvs.map (fun kv => (kV kv.1, kv.2)) ∧ kvs.length ≤ 15 ∧ Q (.ref p) (upd H2 p (.dK (mergeK [] kvs)))
theorem pe_disp {X : Cx} {pos : Pos} {keys : List (Option Expr)} {values : List Expr} {trs : List (TE × TE)} (h : PPs X pos keys values trs) (hall : keys.all (·.isSome) = true) (hl : keys.length = values.length) (h0 : keys ≠ [])
    (h15 : keys.length ≤ 15) : PE X (.Dict keys values pos) (tDisp trs) := by
  intro pins s σ H Q I q
  have hn := I.hok.fresh (Nat.le_refl s.heap.objs.size)
  have I1 := I.laid (a := s.heap.objs.size) (o := .dK []) (h' := s.heap.push { cls := .type "dict", data := .dict #[] }) (t' := s.toks) (fun _ _ q => Heap.get?_push_of_some _ q) (Nat.le_refl _) (dk_empty s.heap I.big)
  refine wpAny_Dict_walk (knd := mixKind X.prog X.w) hall hl h0 h15 (thn (h pins _ σ _ _ I1 (q _ hn)) fun ws s2 ⟨ps, H2, I2, rel, e, kvs, ep, lk, q2⟩ => ?_)
  subst ep
  obtain ⟨rs, c, rk⟩ := carries_of (P := X.prog) (w := X.w) rel
  obtain ⟨z, hd, vs0, r0, dd⟩ := dk_of I2.hok e
  cases r0
  refine ⟨rs, c, dd, fun h' dd' hs => ⟨.ref s.heap.objs.size, _, ?_, rfl, q2⟩⟩
  have hz : (mergeK [] kvs).length ≤ sizeLine := by
    have h1 := length_mergeK kvs []
    rw [List.length_nil] at h1
    rw [sizeLine_eq]; omega
  have he : ∃ q, h'.get? s.heap.objs.size = some q := let ⟨q, _, _, hq, _⟩ := dd'; ⟨q, hq⟩
  exact d_write I2 (by rw [e]; exact True.intro) hs he (dk_new hz hd (rk.merge .nil) dd')
end L2
namespace L2
open PySem PySem.Spec PyProof.Rows
section
variable {X : Cx} {pins : List (Addr × Obj)} {σ : St} {H : Hp} {s : Shared} {h' : Heap}
theorem Inv.turnedL {t' : Nat} {ch : List Addr} (I : Inv X pins σ H s) (k : ∀ b o, b ∉ ch → s.heap.get? b = some o → h'.get? b = some o) (hf : ∀ b ∈ ch, FpOk X pins H b) : Inv X pins σ H { s with heap := h', toks := t' } := by
  have nit : ∀ b u, H b = some u → b ∉ ch := fun b u e z => by
    have q := (hf b z).1
    rw [q] at e; cases e
  refine I.step (g' := s.gens) (d' := s.drawn) (ch := ch) (fun b hb => ⟨(hf b hb).2.2.2.1, (hf b hb).2.1, (hf b hb).2.2.2.2.1, (hf b hb).2.2.2.2.2⟩) (fun b o _ _ hc e _ => k b o hc e) (fun b o _ _ hc e _ => ⟨o.slots, k b o hc e⟩)
    (fun _ _ _ _ n => n) (fun b o hc e => ⟨o, k b o hc e⟩) (fun _ _ e => e) (fun _ _ _ e => e) (fun b ps e => ⟨#[], by rw [e]; simp⟩) (fun m hm => ?_) (fun b u e => ?_) I.bare
  · obtain ⟨o, es, ep, ho, r⟩ := hm
    exact ⟨o, es, ep, k _ o (fun z => (hf _ z).2.1 rfl) ho, r⟩
  · refine (I.hok b u e).stay (fun c v hc q => k c v ?_ q) (fun _ q => q) fun _ _ q => q
    rcases hc with z | z
    · rw [z]; exact nit b u e
    · exact nit c _ z
theorem Inv.turnedNew {t' : Nat} {ch : List Addr} {T : Addr} {ob : HO} (I : Inv X pins σ H s) (k : ∀ b o, b ∉ ch → s.heap.get? b = some o → h'.get? b = some o) (hf : ∀ b ∈ ch, FpOk X pins H b) (hT : s.heap.objs.size ≤ T)
    (new : ObjOk X.prog X.w (upd H T ob) h' T ob) : Inv X pins σ (upd H T ob) { s with heap := h', toks := t' } := by
  have hn : H T = none := I.hok.fresh hT
  have nit : ∀ b u, H b = some u → b ∉ ch := fun b u e z => by
    have q := (hf b z).1
    rw [q] at e; cases e
  refine I.step (g' := s.gens) (d' := s.drawn) (ch := ch) (fun b hb => ⟨(hf b hb).2.2.2.1, (hf b hb).2.1, (hf b hb).2.2.2.2.1, (hf b hb).2.2.2.2.2⟩) (fun b o _ _ hc e _ => k b o hc e) (fun b o _ _ hc e _ => ⟨o.slots, k b o hc e⟩)
    (fun b o _ e n => ?_) (fun b o hc e => ⟨o, k b o hc e⟩) (fun b xs e => ?_) (fun b o u e => ?_) (fun b ps e => ⟨#[], ?_⟩) (fun m hm => ?_) (fun b u e => ?_) I.bare
  · rw [upd_ne (Nat.ne_of_lt (Nat.lt_of_lt_of_le (Heap.lt_size e) hT))]; exact n
  · rw [upd_ne (ne_of_none e hn)]; exact e
  · rw [upd_ne (ne_of_none e hn)]; exact e
  · rw [upd_ne (ne_of_none e hn), e]; simp
  · obtain ⟨o, es, ep, ho, r⟩ := hm
    exact ⟨o, es, ep, k _ o (fun z => (hf _ z).2.1 rfl) ho, r⟩
  · by_cases hb : b = T
    · subst hb
      rw [upd_same] at e
      cases e
      exact new
    · rw [upd_ne hb] at e
      refine (I.hok b u e).stay (fun c v hc q => k c v ?_ q) (fun c q => by rw [upd_ne (ne_of_none q hn)]; exact q) fun c xs q => by rw [upd_ne (ne_of_none q hn)]; exact q
      rcases hc with z | z
      · rw [z]; exact nit b u e
      · exact nit c _ z
end
def Ite (K : PySem.W.Frag) (a : Addr) : It :=
  ⟨fun i H => ∃ (xs : List V) (x : V), SqL K H a xs ∧ xs[i]? = some x, fun i H v H' => ∃ T x, v = .ref T ∧ H T = none ∧ H' = upd H T (.tup [.int (i : Nat), x]) ∧ ∀ xs, SqL K H a xs → xs[i]? = some x, fun i H => ∃ xs : List V, SqL K H a xs ∧ xs.length ≤ i⟩
theorem turn_enum {P : Program} {w : World} {K : PySem.W.Frag} {elts : List Expr} {kk : Nat} {tpos : Pos} (a e it : Addr) :
    Turn P w K (.Tuple elts kk tpos) (Ite K a) [e, it] e (fun i h => (∃ old, IsEnum h e it ((i : Nat) : Int) old) ∧ h.IsListIter it a i ∧ e ≠ it) where
  mem := by simp
  obj := fun i h st b hb => by
    obtain ⟨⟨old, he⟩, ⟨o, ho, hc, hd⟩, _⟩ := st
    have e' : b = e ∨ b = it := by simpa using hb
    rcases e' with z | z
    · rw [z]; exact ⟨_, he, fun v q => nomatch q⟩
    · rw [z]; exact ⟨o, ho, fun v q => by rw [hd] at q; cases q⟩
  keep := fun i h h' st k => let ⟨⟨old, he⟩, hi, hne⟩ := st; ⟨⟨old, k e (by simp) _ he⟩, hi.at fun o q => k it (by simp) o q, hne⟩
  item := by
    intro X hP hw hK hc i pins s σ H E I hf st hg
    subst hP hw hK
    obtain ⟨⟨old, he⟩, hit, hne⟩ := st
    obtain ⟨xs, x, hq, hx⟩ := hg
    obtain ⟨its, rv, p, hz⟩ := I.list hq
    obtain ⟨u, hu, ru⟩ := rv.get hx
    have hel : e < s.heap.objs.size := Heap.lt_size he
    have hil : it < s.heap.objs.size := by obtain ⟨_, q, _⟩ := hit; exact Heap.lt_size q
    refine wpAny_pyNext_enum_item he hit p.isList (x := u) (by simpa using hu) hne fun h' ho hit' hT hsz hk => ?_
    refine ⟨_, rfl, wpAny_letOwnedTupleGo_enum (s := { s with heap := h', toks := s.toks + 1 }) ho fun h'' he' sb => ?_⟩
    have hT2 : h''.get? s.heap.objs.size = some { cls := .type "tuple", data := .seq #[.int i s.toks, u] } := (sb.2 _ (Nat.ne_of_gt hel)).trans hT
    have new : ObjOk X.prog X.w (upd H s.heap.objs.size (.tup [.int (i : Nat), x])) h'' s.heap.objs.size (.tup [.int (i : Nat), x]) :=
      ⟨by show 2 ≤ sizeLine; decide, [.int i s.toks, u], .cons ⟨_, rfl⟩ (.cons ru .nil), ⟨_, hT2, rfl, _, rfl⟩⟩
    have I1 : Inv X pins σ (upd H s.heap.objs.size (.tup [.int (i : Nat), x])) { s with heap := h'', toks := s.toks + 1 } :=
      I.turnedNew (ch := [e, it]) (fun b ob hb q => (sb.2 b (fun z => hb (by simp [z]))).trans (hk b ob (fun z => hb (by simp [z])) (fun z => hb (by simp [z])) q)) hf (Nat.le_refl _) new
    refine ⟨.ref s.heap.objs.size, _, I1, rfl, ⟨_, x, rfl, I.hok.fresh (Nat.le_refl _), rfl, fun ys hy => by rw [I.list_inj hy hq]; exact hx⟩, ⟨⟨u, ?_⟩, hit'.at fun o q => (sb.2 it (Ne.symm hne)).trans q, hne⟩, fun b hb => ?_⟩
    · have e1 : ((i + 1 : Nat) : Int) = (i : Int) + 1 := by omega
      rw [e1]; exact he'
    · have hb' : b < s.heap.objs.size := by
        have e' : b = e ∨ b = it := by simpa using hb
        rcases e' with z | z
        · rw [z]; exact hel
        · rw [z]; exact hil
      rw [upd_ne (Nat.ne_of_lt hb')]
      exact (hf b hb).1
  done := by
    intro X hP hw hK hc i pins s σ H E I hf st hg
    subst hP hw hK
    obtain ⟨⟨old, he⟩, hit, hne⟩ := st
    obtain ⟨xs, hq, hx⟩ := hg
    obtain ⟨its, rv, p, hz⟩ := I.list hq
    obtain ⟨f0, f1, f2, f3, f4, f5⟩ := hf it (by simp)
    have hl := rv.length
    exact wpAny_pyNext_enum_end (I.ok.hd hc) he hit p.isList (by simp; omega) fun h' eb => ⟨rfl, I.turned (t' := s.toks) (fun b o hb q => eb b o hb q) f0 f1 f3 f4 f5⟩
  self := fun A i s Q E st h => let ⟨⟨_, he⟩, _⟩ := st; wpAny_pyIter_enum he h
def iEnum (K : PySem.W.Frag) (ta : TA) : TI := fun σ H R => ta σ H fun vs H1 => ∃ a xs, vs = [.ref a] ∧ SqL K H1 a xs ∧ R (Ite K a) H1
theorem pi_enum {X : Cx} {e : Expr} {ta : TA} {p pos tpos : Pos} {elts : List Expr} {kk : Nat} (hg : Gl X "enumerate") (hm : X.mg "enumerate" = none) (ha : PA X [e] ta) (hs : starEach [e] X.env = [(false, eval e X.env)] := by rfl) :
    PI X (.Tuple elts kk tpos) (.Call (.Name "enumerate" p) [e] [] pos) (iEnum X.K ta) := by
  intro pins s σ H R I h
  refine Call_ (ld_blt I hg hm boot_enumerate (PyProof.Rows.callWith_type1 (thn (ha pos pins s σ H _ I h) fun us s1 ⟨vs, H1, I1, r1, q1⟩ => ?_) hs rfl))
  obtain ⟨a, xs, ex, hq, q⟩ := q1
  subst ex
  cases r1 with
  | cons r rr =>
    cases rr
    cases r
    obtain ⟨its, rv, p', hz⟩ := I1.list hq
    refine call_enumerate_list p'.isList fun h' he hit hsz hk => wpAny_pyIter_enum he ?_
    have I2 : Inv X pins σ H1 { s1 with heap := h' } := I1.kept (t' := s1.toks) hk
    refine ⟨s1.heap.objs.size + 1, [s1.heap.objs.size + 1, s1.heap.objs.size], _, _, H1, rfl, I2, turn_enum a (s1.heap.objs.size + 1) s1.heap.objs.size, ⟨⟨.none, he⟩, hit, Nat.succ_ne_self _⟩, fun b hb => ?_, q⟩
    have e' : b = s1.heap.objs.size + 1 ∨ b = s1.heap.objs.size := by simpa using hb
    have hle : s1.heap.objs.size ≤ b := by
      rcases e' with z | z
      · rw [z]; exact Nat.le_add_right _ _
      · rw [z]; exact Nat.le_refl _
    exact I1.fpOk hle (I1.hok.fresh hle)
theorem boot_zip5 : bootBuiltins "zip" = some (.type "zip") := by decide +kernel
def Itz (K : PySem.W.Frag) (a b : Addr) : It :=
  ⟨fun i H => ∃ (xs ys : List V) (x y : V), SqL K H a xs ∧ SqL K H b ys ∧ xs[i]? = some x ∧ ys[i]? = some y,
    fun i H v H' => ∃ T x y, v = .ref T ∧ H T = none ∧ H' = upd H T (.tup [x, y]) ∧ (∀ xs, SqL K H a xs → xs[i]? = some x) ∧ ∀ ys, SqL K H b ys → ys[i]? = some y,
    fun i H => ∃ xs ys : List V, SqL K H a xs ∧ SqL K H b ys ∧ (xs.length ≤ i ∨ ys.length ≤ i)⟩
theorem turn_zip {P : Program} {w : World} {K : PySem.W.Frag} {elts : List Expr} {kk : Nat} {tpos : Pos} {a b z TI TO i1 i2 : Addr} (D : ZipApart z TI TO i1 i2 a b) :
    Turn P w K (.Tuple elts kk tpos) (Itz K a b) [z, TI, TO, i1, i2] z (fun i h => IsZip h z TI TO .none ∧ IsPair h TI (.ref i1) (.ref i2) ∧ (∃ x y, IsPair h TO x y) ∧ h.IsListIter i1 a i ∧ h.IsListIter i2 b i) where
  mem := by simp
  obj := fun i h st c hc => by
    obtain ⟨hz, hTI, ⟨x, y, hTO⟩, ⟨o1, e1, _, d1⟩, ⟨o2, e2, _, d2⟩⟩ := st
    have e' : c = z ∨ c = TI ∨ c = TO ∨ c = i1 ∨ c = i2 := by simpa using hc
    rcases e' with q | q | q | q | q
    · rw [q]; exact ⟨_, hz, fun v q => nomatch q⟩
    · rw [q]; exact ⟨_, hTI, fun v q => nomatch q⟩
    · rw [q]; exact ⟨_, hTO, fun v q => nomatch q⟩
    · rw [q]; exact ⟨o1, e1, fun v q => by rw [d1] at q; cases q⟩
    · rw [q]; exact ⟨o2, e2, fun v q => by rw [d2] at q; cases q⟩
  keep := fun i h h' st k => by
    obtain ⟨hz, hTI, ⟨x, y, hTO⟩, h1, h2⟩ := st
    exact ⟨k z (by simp) _ hz, k TI (by simp) _ hTI, ⟨x, y, k TO (by simp) _ hTO⟩, h1.at fun o q => k i1 (by simp) o q, h2.at fun o q => k i2 (by simp) o q⟩
  item := by
    intro X hP hw hK hc i pins s σ H E I hf st hg
    subst hP hw hK
    obtain ⟨hz, hTI, ⟨x0, y0, hTO⟩, h1, h2⟩ := st
    obtain ⟨xs, ys, x, y, hqx, hqy, hx, hy⟩ := hg
    obtain ⟨its, rv, p, _⟩ := I.list hqx
    obtain ⟨its2, rv2, p2, _⟩ := I.list hqy
    obtain ⟨u, hu, ru⟩ := rv.get hx
    obtain ⟨u2, hu2, ru2⟩ := rv2.get hy
    have hzl : z < s.heap.objs.size := Heap.lt_size hz
    refine wpAny_pyNext_zip_item D hz hTI hTO h1 h2 p.isList p2.isList (x := u) (y := u2) (by simpa using hu) (by simpa using hu2) fun h' z' TO' h1' h2' hT hsz hk => ?_
    refine ⟨_, rfl, wpAny_letOwnedTupleGo_zip (s := { s with heap := h' }) z' fun h'' z'' sb => ?_⟩
    have hT2 : h''.get? s.heap.objs.size = some { cls := .type "tuple", data := .seq #[u, u2] } := (sb.2 _ (Nat.ne_of_gt hzl)).trans hT
    have new : ObjOk X.prog X.w (upd H s.heap.objs.size (.tup [x, y])) h'' s.heap.objs.size (.tup [x, y]) :=
      ⟨by show 2 ≤ sizeLine; decide, [u, u2], .cons ru (.cons ru2 .nil), ⟨_, hT2, rfl, _, rfl⟩⟩
    have I1 : Inv X pins σ (upd H s.heap.objs.size (.tup [x, y])) { s with heap := h'' } :=
      I.turnedNew (t' := s.toks) (ch := [z, TI, TO, i1, i2]) (fun c o hb q => (sb.2 c (fun q' => hb (by simp [q']))).trans (hk c o (fun q' => hb (by simp [q'])) (fun q' => hb (by simp [q'])) (fun q' => hb (by simp [q'])) (fun q' => hb (by simp [q'])) q)) hf (Nat.le_refl _) new
    refine ⟨.ref s.heap.objs.size, _, I1, rfl, ⟨_, x, y, rfl, I.hok.fresh (Nat.le_refl _), rfl, fun l hl => by rw [I.list_inj hl hqx]; exact hx, fun l hl => by rw [I.list_inj hl hqy]; exact hy⟩, ⟨z'', ?_, ⟨u, u2, ?_⟩, ?_, ?_⟩, fun c hcm => ?_⟩
    · exact (sb.2 _ D.TIz).trans (hk _ _ D.TIz D.TITO D.TIi1 D.TIi2 hTI)
    · exact (sb.2 _ D.TOz).trans TO'
    · exact h1'.at fun o q => (sb.2 _ D.i1z).trans q
    · exact h2'.at fun o q => (sb.2 _ D.i2z).trans q
    · have hlt : c < s.heap.objs.size := by
        have e' : c = z ∨ c = TI ∨ c = TO ∨ c = i1 ∨ c = i2 := by simpa using hcm
        rcases e' with q | q | q | q | q
        · rw [q]; exact hzl
        · rw [q]; exact Heap.lt_size hTI
        · rw [q]; exact Heap.lt_size hTO
        · rw [q]; obtain ⟨_, e1, _⟩ := h1; exact Heap.lt_size e1
        · rw [q]; obtain ⟨_, e2, _⟩ := h2; exact Heap.lt_size e2
      rw [upd_ne (Nat.ne_of_lt hlt)]
      exact (hf c hcm).1
  done := by
    intro X hP hw hK hc i pins s σ H E I hf st hg
    subst hP hw hK
    obtain ⟨hz, hTI, ⟨x0, y0, hTO⟩, h1, h2⟩ := st
    obtain ⟨xs, ys, hqx, hqy, hend⟩ := hg
    obtain ⟨its, rv, p, _⟩ := I.list hqx
    obtain ⟨its2, rv2, p2, _⟩ := I.list hqy
    have l1 := rv.length
    have l2 := rv2.length
    have he : its.toArray[i]? = none ∨ its2.toArray[i]? = none := by
      rcases hend with q | q
      · exact .inl (by simp; omega)
      · exact .inr (by simp; omega)
    exact wpAny_pyNext_zip_end (I.ok.hd hc) D hz hTI hTO h1 h2 p.isList p2.isList he fun h' hk => ⟨rfl, I.turnedL (t' := s.toks) (ch := [z, TI, TO, i1, i2]) (fun c o hb q =>
      hk c o (fun q' => hb (by simp [q'])) (fun q' => hb (by simp [q'])) (fun q' => hb (by simp [q'])) (fun q' => hb (by simp [q'])) q) hf⟩
  self := fun A i s Q E st h => wpAny_pyIter_zip st.1 h
def iZip (K : PySem.W.Frag) (ta : TA) : TI := fun σ H R => ta σ H fun vs H1 => ∃ a b xs ys, vs = [.ref a, .ref b] ∧ SqL K H1 a xs ∧ SqL K H1 b ys ∧ R (Itz K a b) H1
theorem pi_zip {X : Cx} {e e2 : Expr} {ta : TA} {p pos tpos : Pos} {elts : List Expr} {kk : Nat} (hg : Gl X "zip") (hm : X.mg "zip" = none) (ha : PA X [e, e2] ta)
    (hs : starEach [e, e2] X.env = (false, eval e X.env) :: starEach [e2] X.env := by rfl) (hpl : (backTo pos (starEach [e2] X.env)).any (·.1) = false := by rfl) :
    PI X (.Tuple elts kk tpos) (.Call (.Name "zip" p) [e, e2] [] pos) (iZip X.K ta) := by
  intro pins s σ H R I h
  refine Call_ (ld_blt I hg hm boot_zip5 (PyProof.Rows.callWith_type1 (thn (ha pos pins s σ H _ I h) fun us s1 ⟨vs, H1, I1, r1, q1⟩ => ?_) hs hpl))
  obtain ⟨a, b, xs, ys, ex, hqx, hqy, q⟩ := q1
  subst ex
  cases r1 with
  | cons r rr =>
    cases rr with
    | cons r' rr =>
      cases rr
      cases r
      cases r'
      obtain ⟨its, rv, p1, _⟩ := I1.list hqx
      obtain ⟨its2, rv2, p2, _⟩ := I1.list hqy
      have la : a < s1.heap.objs.size := p1.lt
      have lb : b < s1.heap.objs.size := p2.lt
      refine call_zip_2 p1.isList p2.isList fun h' hz hTI hTO h1 h2 hsz hk => wpAny_pyIter_zip hz ?_
      have I2 : Inv X pins σ H1 { s1 with heap := h' } := I1.kept (t' := s1.toks) hk
      refine ⟨s1.heap.objs.size + 4, [s1.heap.objs.size + 4, s1.heap.objs.size + 2, s1.heap.objs.size + 3, s1.heap.objs.size, s1.heap.objs.size + 1], _, _, H1, rfl, I2, turn_zip (PySem.W.ktu_apart s1.heap.objs.size a b la lb), ⟨hz, hTI, ⟨_, _, hTO⟩, h1, h2⟩, fun c hcm => ?_, q⟩
      have e' : c = s1.heap.objs.size + 4 ∨ c = s1.heap.objs.size + 2 ∨ c = s1.heap.objs.size + 3 ∨ c = s1.heap.objs.size ∨ c = s1.heap.objs.size + 1 := by simpa using hcm
      have hle : s1.heap.objs.size ≤ c := by
        rcases e' with z | z | z | z | z
        · rw [z]; exact Nat.le_add_right _ _
        · rw [z]; exact Nat.le_add_right _ _
        · rw [z]; exact Nat.le_add_right _ _
        · rw [z]; exact Nat.le_refl _
        · rw [z]; exact Nat.le_add_right _ _
      exact I1.fpOk hle (I1.hok.fresh hle)
end L2
section 
namespace TL
open PySem PySem.Builtin PySem.Builtin.Str PySem.StrLaws
abbrev tl (x : Str) : List Nat := x.cps.toList
def pre (S l : List Nat) : Bool := l.take S.length == S
def par (S : List Nat) : List Nat → List Nat → Option (List Nat × List Nat)
  | _, [] => none
  | acc, c :: r => if pre S (c :: r) = true then some (acc, (c :: r).drop S.length) else par S (acc ++ [c]) r
end TL
end 
namespace Att
open PySem PySem.W PySem.Calls PyProof.Rows
section
variable {prog : Program} {w : World} {A : Around} {E : Value → Shared → Prop} {s : Shared} {K : Frag}
def ledger (h : Heap) (L d : Addr) : List (Addr × Obj) := (List.range h.objs.size).filterMap fun a => if a = L ∨ a = d then none else (h.get? a).map fun o => (a, o)
end
end Att
namespace L2
open PySem PySem.Spec PyProof.Rows
def inClass (s : Stmt) (j : Nat) : Stmt := match s with
  | .ClassDef _ _ _ body _ _ _ _ _ _ _ => body.getD j (.Pass ⟨0, 0, 0, 0⟩)
  | _ => .Pass ⟨0, 0, 0, 0⟩
def defArgs (s : Stmt) : Arguments := match s with
  | .FunctionDef _ a _ _ _ _ _ _ _ _ => a
  | _ => { posonlyargs := [], args := [], vararg := none, kwonlyargs := [], kw_defaults := [], kwarg := none, defaults := [] }
def defBody (s : Stmt) : List Stmt := match s with
  | .FunctionDef _ _ b _ _ _ _ _ _ _ => b
  | _ => []
def defScope (s : Stmt) : Scope := match s with
  | .FunctionDef _ _ _ _ _ _ sc _ _ _ => sc
  | _ => { kind := .function, names := [], isGenerator := false, isCoroutine := false }
abbrev CX0 : CXT := fun _ _ _ _ _ _ => False
abbrev E0 : XK := fun _ _ _ => False
theorem pass0 {X : Cx} : Passes CX0 X E0 := fun _ _ _ _ _ _ _ h => h.elim
structure Fun (K : PySem.W.Frag) (x qual : Str) (st : Stmt) (f : Addr) (fd : FuncData) : Prop where
  ex : ∃ (oc : Value) (od : Option Addr) (kV doc pm : Value) (an : Option Addr) (cdv ct : Value) (osl : Array (Option Value)),
    fd = PySem.W.fnOf x qual (defArgs st) (defBody st) (defScope st) .none kV doc pm an cdv ct ∧ K.lookup f = some ⟨oc, od, .func fd, osl⟩ ∧ PySem.W.codeIn K cdv qual = true
  kp : PySem.W.keepIn K (.ref f) = true
section
variable {P : Program} {w : World} {K : PySem.W.Frag} {mg : Str → Option Value} {base : Heap}
theorem Fun.ok {x qual : Str} {st : Stmt} {f : Addr} {fd : FuncData} {N ps : List Str} {k : Nat} {sp : Sp} (F : Fun K x qual st f fd) (S : FnScope N ps (defScope st)) (len : ∀ vs H Q E, sp vs H Q E → vs.length = ps.length)
    (hbody : ∀ (cdv : Value) (A : Around) (outer : List Env) (s : Shared) (H : Hp) (vs : List V) (Q : VK) (E : XK), Room k (A.deeper (envOfC qual (defScope st) s.heap.objs.size f cdv)) → sp vs H Q E →
      ∃ t, PSs (cxOf CX0 P w K mg base N qual (defScope st) f cdv A outer s H E).nox (defBody st) t ∧ t { nx := fun _ H' => Q .non H', rt := Q } (start N vs) H) : FnOk P w K mg base CX0 (k + 1) f fd ps sp := by
  obtain ⟨oc, od, kV, doc, pm, an, cdv, ct, osl, rfl, lk, hcd⟩ := F.ex
  refine fn_of lk hcd S len fun A outer s H vs Q E hr hsp => ?_
  obtain ⟨t, h, q⟩ := hbody cdv A outer s H vs Q E hr hsp
  exact ⟨t, h.nox, q⟩
theorem Fun.binds {x qual : Str} {st : Stmt} {f : Addr} {fd : FuncData} {ps : List Str} (F : Fun K x qual st f fd)
    (h : ∀ (kV doc pm : Value) (an : Option Addr) (cdv ct : Value) (us : List Value), us.length = ps.length → bindArgs (PySem.W.fnOf x qual (defArgs st) (defBody st) (defScope st) .none kV doc pm an cdv ct) ⟨us, []⟩ = pure (ps.zip us)) : Binds K fd ps [] := by
  obtain ⟨oc, od, kV, doc, pm, an, cdv, ct, osl, rfl, lk, hcd⟩ := F.ex
  exact .all (h kV doc pm an cdv ct)
theorem fun_mk {x qual : Str} {st : Stmt} {f : Addr} {oc : Value} {od an : Option Addr} {osl : Array (Option Value)} {kV doc pm cdv ct : Value} (l : K.lookup f = some ⟨oc, od, .func (PySem.W.fnOf x qual (defArgs st) (defBody st) (defScope st) .none kV doc pm an cdv ct), osl⟩)
    (c : PySem.W.codeIn K cdv qual = true) (k : PySem.W.keepIn K (.ref f) = true) : Fun K x qual st f (PySem.W.fnOf x qual (defArgs st) (defBody st) (defScope st) .none kV doc pm an cdv ct) := ⟨⟨oc, od, kV, doc, pm, an, cdv, ct, osl, rfl, l, c⟩, k⟩
end
theorem hu_of {A : Around} {k : Nat} (hr : Room k A) : A.units + 1 < cLine := Nat.lt_of_le_of_lt (Nat.add_le_add_left (by decide : 1 ≤ 64) _) hr.units
theorem small1000 {n : Nat} (h : n ≤ 1000) : n < sizeLine := Nat.lt_of_le_of_lt h (by decide)
section
variable {X : Cx}
theorem pv (i : Nat) {x : Str} {pos : Pos} (hN : X.N[i]? = some x := by rfl) (hv : Vis X.env.scope x := by first | exact Or.inl rfl | exact Or.inr (Or.inl rfl) | exact Or.inr (Or.inr rfl)) (hd : (x == ("__debug__" : Str)) = false := by decide)
    (hcd : (x == ("__classdict__" : Str)) = false := by decide) : PE X (.Name x pos) (tVar i) := pe_var hN hv hd hcd
theorem call_lenD : CallR X (.builtin "len") (fun xs H Q => ∃ a kvs, xs = [V.ref a] ∧ H a = some (.dK kvs) ∧ Q (.int kvs.length) H) := by
  intro pins s σ H xs us Q I r h
  obtain ⟨a, kvs, rfl, ha, q⟩ := h
  obtain ⟨u, rfl, ru⟩ := vals1 r
  cases ru
  exact d_len I (.inl ha) fun t s' I' => ⟨.int kvs.length, H, I', ⟨t, rfl⟩, q⟩
end
theorem iteF {A B : Prop} (h : B) : if false = true then A else B := by
  rw [if_neg Bool.false_ne_true]
  exact h
theorem iteT {A B : Prop} (h : A) : if true = true then A else B := by
  rw [if_pos rfl]
  exact h
theorem ite2 {c A B : Prop} [Decidable c] (h1 : c → A) (h2 : ¬ c → B) : if c then A else B := by
  by_cases h : c
  · rw [if_pos h]
    exact h1 h
  · rw [if_neg h]
    exact h2 h
theorem iteNS {c A B : Prop} [Decidable c] (hc : c) (h : B) : if (!decide c) = true then A else B := by
  rw [decide_eq_true hc]
  exact iteF h
def Same (H H' : Hp) : Prop := ∀ b o, H b = some o → H' b = some o
theorem Same.refl (H : Hp) : Same H H := fun _ _ h => h
theorem Same.trans {H H1 H2 : Hp} (a : Same H H1) (b : Same H1 H2) : Same H H2 := fun c o h => b c o (a c o h)
theorem Same.free {H H' : Hp} (e : Same H H') {l : Addr} (h : H' l = Option.none) : H l = Option.none := by
  cases q : H l with
  | none => rfl
  | some o =>
    rw [e l o q] at h
    cases h
theorem Same.seq {K : PySem.W.Frag} {H H' : Hp} {a : Addr} {xs : List V} (e : Same H H') (h : SqL K H a xs) : SqL K H' a xs := by
  rcases h with (h | ⟨o, h⟩) | h
  · exact .inl (.inl (e _ _ h))
  · exact .inl (.inr ⟨o, e _ _ h⟩)
  · exact .inr h
section
variable {κ : Type} [DecidableEq κ]
theorem valV_not {kvs : List (κ × V)} {k : κ} (h : valV kvs k = none) : ¬ k ∈ kvs.map (·.1) := by
  intro m
  obtain ⟨p, hp, e⟩ := List.mem_map.mp m
  have q : (kvs.any fun kv => decide (kv.1 = k)) = true := List.any_eq_true.mpr ⟨p, hp, decide_eq_true e⟩
  rw [valV_any, h] at q
  exact absurd q (by simp)
theorem valV_in {kvs : List (κ × V)} {k : κ} {v : V} (h : valV kvs k = some v) : k ∈ kvs.map (·.1) := by
  have q : (kvs.any fun kv => decide (kv.1 = k)) = true := by
    rw [valV_any, h]
    all_goals rfl
  obtain ⟨p, hp, e⟩ := List.any_eq_true.mp q
  exact List.mem_map.mpr ⟨p, hp, of_decide_eq_true e⟩
theorem nd_snoc : ∀ {l : List κ} {k : κ}, l.Nodup → ¬ k ∈ l → (l ++ [k]).Nodup
  | [], k, _, _ => by simp
  | a :: r, k, h, hk => by
    obtain ⟨h1, h2⟩ := List.nodup_cons.mp h
    show (a :: (r ++ [k])).Nodup
    refine List.nodup_cons.mpr ⟨fun m => ?_, nd_snoc h2 fun m => hk (List.mem_cons.mpr (Or.inr m))⟩
    rcases List.mem_append.mp m with q | q
    · exact h1 q
    · exact hk (List.mem_cons.mpr (Or.inl (List.mem_singleton.mp q).symm))
theorem nd_putK {kvs : List (κ × V)} {k : κ} (v : V) (hn : (kvs.map (·.1)).Nodup) (h : valV kvs k = none) : ((putK kvs k v).map (·.1)).Nodup := by
  rw [putK_new v h, List.map_append]
  exact nd_snoc hn (valV_not h)
end
theorem at_of {xs : List V} {z : Int} {j : Nat} {v : V} (e : z = (j : Int)) (h : xs[j]? = some v) : atI xs z = some v := by
  rw [e]
  exact atI_nat h
theorem nd_ix {α : Type} {l : List α} (hN : l.Nodup) {i j : Nat} {x : α} (a : l[i]? = some x) (b : l[j]? = some x) : i = j := by
  obtain ⟨h1, e1⟩ := List.getElem?_eq_some_iff.mp a
  obtain ⟨h2, e2⟩ := List.getElem?_eq_some_iff.mp b
  exact (List.getElem_inj hN).mp (e1.trans e2.symm)
theorem Same.made {H H1 : Hp} {x dx C : Addr} (nx : H x = Option.none) (nd : H dx = Option.none) (k : ∀ b o, (upd (upd H dx (.own x)) x (.ins C dx [])) b = some o → b ≠ x → H1 b = some o) : Same H H1 := fun b o e =>
  k b o (by rw [upd_ne (ne_of_none e nx), upd_ne (ne_of_none e nd)]; exact e) (ne_of_none e nx)
end L2
section
set_option Elab.async false
set_option linter.all false
set_option maxRecDepth 100000
set_option maxHeartbeats 2000000
namespace L2
open PySem PySem.Spec PyProof.Rows
open PySem.W (WData Codec OpenSpec Well WellAll ReadsW ReadsAllW)
mutual
inductive Dw (K : PySem.W.Frag) (H : Hp) : V → WData → Prop
  | non : Dw K H .non .none
  | bl (b : Bool) : Dw K H (.bl b) (.bool b)
  | int (i : Int) : Dw K H (.int i) (.int i)
  | str (x : Str) : Dw K H (.str x) (.str x)
  | byt (b : Array UInt8) : Dw K H (.byt b) (.bytes b.toList)
  | lst {a : Addr} {xs : List V} {ds : List WData} : SqL K H a xs → DwAll K H xs ds → Dw K H (.ref a) (.list ds)
  | tup {a : Addr} {xs : List V} {ds : List WData} : SqT K H a xs → DwAll K H xs ds → Dw K H (.ref a) (.tuple ds)
inductive DwAll (K : PySem.W.Frag) (H : Hp) : List V → List WData → Prop
  | nil : DwAll K H [] []
  | cons {v : V} {vs : List V} {d : WData} {ds : List WData} : Dw K H v d → DwAll K H vs ds → DwAll K H (v :: vs) (d :: ds)
end
theorem dw_ints {K : PySem.W.Frag} {H : Hp} : ∀ ns : List Int, DwAll K H (ns.map V.int) (ns.map WData.int)
  | [] => .nil
  | n :: r => .cons (.int n) (dw_ints r)
theorem ints_dw {K : PySem.W.Frag} {H : Hp} : ∀ (ns : List Int) (xs : List V), DwAll K H xs (ns.map WData.int) → xs = ns.map V.int
  | [], xs, h => by
    cases h
    rfl
  | n :: r, xs, h => by
    cases h with
    | cons h1 h2 =>
      cases h1
      rw [ints_dw r _ h2] <;> rfl
section
variable {P : Program} {w : World} {K : PySem.W.Frag} {H : Hp} {h : Heap} {R : PySem.W.WRecords} {cl : Str → Option Addr}
theorem sqL_at {a : Addr} {xs : List V} (hok : HOk P w H h) (KX : K.In h) (q : SqL K H a xs) : ∃ (its : List Value) (o : Obj) (n : Nat), Vals xs its ∧ h.get? a = some o ∧ o.cls = .type "list" ∧ o.data = .seq its.toArray n := by
  rcases q with q | ⟨o, its, n, e, hc, _, hd, _, hv⟩
  · obtain ⟨_, its, n, hv, e⟩ := (show ObjOk P w H h a (.lst xs) from q.ok hok)
    exact ⟨its, _, n, hv, e, rfl, rfl⟩
  · exact ⟨its.toList, o, n, hv, KX _ _ e, hc, by simp [hd]⟩
theorem sqT_at {a : Addr} {xs : List V} (hok : HOk P w H h) (KX : K.In h) (q : SqT K H a xs) : ∃ (its : List Value) (o : Obj) (n : Nat), Vals xs its ∧ h.get? a = some o ∧ o.cls = .type "tuple" ∧ o.data = .seq its.toArray n := by
  rcases q with q | ⟨o, its, n, e, hc, hd, _, hv⟩
  · obtain ⟨_, its, hv, o, e, hc, n, hd⟩ := (show ObjOk P w H h a (.tup xs) from q.ok hok)
    exact ⟨its, o, n, hv, e, hc, hd⟩
  · exact ⟨its.toList, o, n, hv, KX _ _ e, hc, by simp [hd]⟩
mutual
theorem Dw.reads (hok : HOk P w H h) (KX : K.In h) : ∀ (d : WData) (v : V) (u : Value), Dw K H v d → RelV v u → ∃ as, ReadsW R cl h u d as
  | .none, _, _, x, r => by
    cases x
    cases r
    exact ⟨_, ReadsW.none⟩
  | .bool b, _, _, x, r => by
    cases x
    cases r
    exact ⟨_, ReadsW.bool b⟩
  | .int i, _, _, x, r => by
    cases x
    obtain ⟨t, rfl⟩ := r
    exact ⟨_, ReadsW.int i t⟩
  | .str s, _, _, x, r => by
    cases x
    obtain ⟨t, rfl⟩ := r
    exact ⟨_, ReadsW.str s t⟩
  | .bytes b, _, _, x, r => by
    cases x
    obtain ⟨t, rfl⟩ := r
    exact ⟨_, ReadsW.bytes _ t⟩
  | .list ds, _, _, x, r => by
    cases x with
    | lst hs ha =>
      cases r
      obtain ⟨its, o, n, rv, ho, hc, hd⟩ := sqL_at hok KX hs
      obtain ⟨as, hr⟩ := Dw.readsAll hok KX ds _ its ha rv
      exact ⟨_, ReadsW.list ho hc hd hr⟩
  | .tuple ds, _, _, x, r => by
    cases x with
    | tup hs ha =>
      cases r
      obtain ⟨its, o, n, rv, ho, hc, hd⟩ := sqT_at hok KX hs
      obtain ⟨as, hr⟩ := Dw.readsAll hok KX ds _ its ha rv
      exact ⟨_, ReadsW.tuple ho hc hd hr⟩
  | .float _, _, _, x, _ => by cases x
  | .dict _, _, _, x, _ => by cases x
  | .bytearray _, _, _, x, _ => by cases x
  | .set _, _, _, x, _ => by cases x
  | .frozenset _, _, _, x, _ => by cases x
  | .obj _ _, _, _, x, _ => by cases x
theorem Dw.readsAll (hok : HOk P w H h) (KX : K.In h) : ∀ (ds : List WData) (vs : List V) (us : List Value), DwAll K H vs ds → Vals vs us → ∃ as, ReadsAllW R cl h us ds as
  | [], _, _, x, r => by
    cases x
    cases r
    exact ⟨_, ReadsAllW.nil⟩
  | d :: ds, _, _, x, r => by
    cases x with
    | cons h1 h2 =>
      cases r with
      | cons r1 r2 =>
        obtain ⟨as, q1⟩ := Dw.reads hok KX d _ _ h1 r1
        obtain ⟨bs, q2⟩ := Dw.readsAll hok KX ds _ _ h2 r2
        exact ⟨_, ReadsAllW.cons q1 q2⟩
end
end
mutual
def plW : WData → Bool
  | .none => true
  | .bool _ => true
  | .int _ => true
  | .str _ => true
  | .bytes _ => true
  | .list xs => plWs xs
  | .tuple xs => plWs xs
  | _ => false
def plWs : List WData → Bool
  | [] => true
  | x :: r => plW x && plWs r
end
theorem plWs_map {α : Type} {f : α → WData} (h : ∀ a, plW (f a) = true) : ∀ l : List α, plWs (l.map f) = true
  | [] => rfl
  | x :: r => by
    show (plW (f x) && plWs (r.map f)) = true
    rw [h x, plWs_map h r] <;> rfl
theorem pl_enc : ∀ (c : Codec) (a : c.denote), plW (c.enc a) = true
  | .unit, _ => rfl
  | .bool, _ => rfl
  | .int _ _, _ => rfl
  | .nat _ _, _ => rfl
  | .u8, _ => rfl
  | .bytes _ _, _ => rfl
  | .text _ _ _ _, _ => rfl
  | .list _ _ c, a => plWs_map (fun x => pl_enc c x) a
  | .pair c d, a => by
    show (plW (c.enc a.1) && (plW (d.enc a.2) && true)) = true
    rw [pl_enc c a.1, pl_enc d a.2] <;> rfl
  | .triple c d e, a => by
    show (plW (c.enc a.1) && (plW (d.enc a.2.1) && (plW (e.enc a.2.2) && true))) = true
    rw [pl_enc c a.1, pl_enc d a.2.1, pl_enc e a.2.2] <;> rfl
  | .option c, none => rfl
  | .option c, some x => pl_enc c x
theorem pl_encAll : ∀ (cs : List Codec) (a : Codec.denoteAll cs), plWs (Codec.encAll cs a) = true
  | [], _ => rfl
  | c :: cs, a => by
    show (plW (c.enc a.1) && plWs (Codec.encAll cs a.2)) = true
    rw [pl_enc c a.1, pl_encAll cs a.2] <;> rfl
theorem weight_mem : ∀ {xs : List WData} {d : WData}, d ∈ xs → d.weight ≤ WData.weightAll xs
  | [], d, h => absurd h (by simp)
  | x :: r, d, h => by
    show d.weight ≤ x.weight + 1 + WData.weightAll r
    rcases List.mem_cons.mp h with e | m
    · rw [e]
      omega
    · have z := weight_mem m
      omega
def toV : Value → V
  | .none => .non
  | .bool b => .bl b
  | .int i _ => .int i
  | .str x _ => .str x
  | .bytes b _ => .byt b
  | .ref a => .ref a
  | _ => .non
def OkU (A : List Addr) : Value → Prop
  | .none => True
  | .bool _ => True
  | .int _ _ => True
  | .str _ _ => True
  | .bytes _ _ => True
  | .ref a => a ∈ A
  | _ => False
theorem OkU.mono {A B : List Addr} (h : ∀ a ∈ A, a ∈ B) : ∀ {u : Value}, OkU A u → OkU B u := fun {u} x => by
  cases u with
  | ref a => exact h a x
  | none => trivial
  | bool b => trivial
  | int i t => trivial
  | str s t => trivial
  | bytes b t => trivial
  | _ => exact False.elim x
theorem relV_toV {A : List Addr} {u : Value} (x : OkU A u) : RelV (toV u) u := by
  cases u with
  | ref a => rfl
  | none => rfl
  | bool b => rfl
  | int i t => exact ⟨t, rfl⟩
  | str s t => exact ⟨t, rfl⟩
  | bytes b t => exact ⟨t, rfl⟩
  | _ => exact False.elim x
theorem vals_toV {A : List Addr} : ∀ {vs : List Value}, (∀ u ∈ vs, OkU A u) → Vals (vs.map toV) vs
  | [], _ => .nil
  | u :: r, h => .cons (relV_toV (h u (List.mem_cons_self ..))) (vals_toV fun x hx => h x (List.mem_cons_of_mem _ hx))
def ArgOb (h : Heap) (A : List Addr) (a : Addr) : Prop := ∃ vs : List Value, vs.length ≤ sizeLine ∧ (∀ u ∈ vs, OkU A u) ∧
  (h.get? a = some { cls := .type "list", data := .seq vs.toArray } ∨ h.get? a = some { cls := .type "tuple", data := .seq vs.toArray })
theorem ArgOb.mono {h : Heap} {A B : List Addr} {a : Addr} (k : ∀ a ∈ A, a ∈ B) (x : ArgOb h A a) : ArgOb h B a := by
  obtain ⟨vs, h1, h2, h3⟩ := x
  exact ⟨vs, h1, fun u hu => (h2 u hu).mono k, h3⟩
theorem wellAll_len {P : Params} {h : Heap} : ∀ {vs : List Value} {ds : List WData}, WellAll P h vs ds → vs.length = ds.length
  | _, _, .nil => rfl
  | _, _, .cons _ b => by
    show _ + 1 = _ + 1
    rw [wellAll_len b]
theorem well_list {P : Params} {h : Heap} {v : Value} {ds : List WData} (x : Well P h v (.list ds)) : ∃ (a : Addr) (vs : List Value), v = .ref a ∧ h.get? a = some { cls := .type "list", data := .seq vs.toArray } ∧ WellAll P h vs ds := by
  cases x with
  | list ho hall => exact ⟨_, _, rfl, ho, hall⟩
theorem well_tuple {P : Params} {h : Heap} {v : Value} {ds : List WData} (x : Well P h v (.tuple ds)) : ∃ (a : Addr) (vs : List Value), v = .ref a ∧ h.get? a = some { cls := .type "tuple", data := .seq vs.toArray } ∧ WellAll P h vs ds := by
  cases x with
  | tuple ho hall => exact ⟨_, _, rfl, ho, hall⟩
theorem well_cons {P : Params} {h : Heap} {us : List Value} {d : WData} {ds : List WData} (x : WellAll P h us (d :: ds)) : ∃ (v : Value) (vs : List Value), us = v :: vs ∧ Well P h v d ∧ WellAll P h vs ds := by
  cases x with
  | cons a b => exact ⟨_, _, rfl, a, b⟩
theorem line_of {n : Nat} (h : n ≤ 1048576) : n ≤ sizeLine := Nat.le_trans h (by decide)
section
variable {P : Params} {h : Heap}
mutual
theorem area_one : ∀ (d : WData) (v : Value), Well P h v d → plW d = true → d.weight ≤ 1048576 → ∃ A : List Addr, OkU A v ∧ ∀ a ∈ A, ArgOb h A a
  | .none, _, x, _, _ => by
    cases x
    exact ⟨[], trivial, fun a m => absurd m (by simp)⟩
  | .bool b, _, x, _, _ => by
    cases x
    exact ⟨[], trivial, fun a m => absurd m (by simp)⟩
  | .int i, _, x, _, _ => by
    cases x
    exact ⟨[], trivial, fun a m => absurd m (by simp)⟩
  | .str s, _, x, _, _ => by
    cases x
    exact ⟨[], trivial, fun a m => absurd m (by simp)⟩
  | .bytes b, _, x, _, _ => by
    cases x
    exact ⟨[], trivial, fun a m => absurd m (by simp)⟩
  | .list ds, _, x, p, z => by
    obtain ⟨a, vs, rfl, ho, hall⟩ := well_list x
    have z2 : WData.weightAll ds ≤ 1048576 := z
    obtain ⟨A, h1, h2⟩ := area_all ds _ hall p fun d hd => Nat.le_trans (weight_mem hd) z2
    have k : ∀ b ∈ A, b ∈ a :: A := fun b hb => List.mem_cons_of_mem _ hb
    refine ⟨a :: A, List.mem_cons_self .., fun b hb => ?_⟩
    rcases List.mem_cons.mp hb with e | m
    · rw [e]
      exact ⟨vs, line_of (by rw [wellAll_len hall]; exact Nat.le_trans (PySem.W.length_le_weightAllW ds) z2), fun u hu => (h1 u hu).mono k, .inl ho⟩
    · exact (h2 b m).mono k
  | .tuple ds, _, x, p, z => by
    obtain ⟨a, vs, rfl, ho, hall⟩ := well_tuple x
    have z2 : WData.weightAll ds ≤ 1048576 := z
    obtain ⟨A, h1, h2⟩ := area_all ds _ hall p fun d hd => Nat.le_trans (weight_mem hd) z2
    have k : ∀ b ∈ A, b ∈ a :: A := fun b hb => List.mem_cons_of_mem _ hb
    refine ⟨a :: A, List.mem_cons_self .., fun b hb => ?_⟩
    rcases List.mem_cons.mp hb with e | m
    · rw [e]
      exact ⟨vs, line_of (by rw [wellAll_len hall]; exact Nat.le_trans (PySem.W.length_le_weightAllW ds) z2), fun u hu => (h1 u hu).mono k, .inr ho⟩
    · exact (h2 b m).mono k
  | .float _, _, _, p, _ => Bool.noConfusion (show false = true from p)
  | .dict _, _, _, p, _ => Bool.noConfusion (show false = true from p)
  | .bytearray _, _, _, p, _ => Bool.noConfusion (show false = true from p)
  | .set _, _, _, p, _ => Bool.noConfusion (show false = true from p)
  | .frozenset _, _, _, p, _ => Bool.noConfusion (show false = true from p)
  | .obj _ _, _, _, p, _ => Bool.noConfusion (show false = true from p)
theorem area_all : ∀ (ds : List WData) (vs : List Value), WellAll P h vs ds → plWs ds = true → (∀ d ∈ ds, d.weight ≤ 1048576) → ∃ A : List Addr, (∀ u ∈ vs, OkU A u) ∧ ∀ a ∈ A, ArgOb h A a
  | [], _, x, _, _ => by
    cases x
    exact ⟨[], fun u m => absurd m (by simp), fun a m => absurd m (by simp)⟩
  | d :: ds, _, x, p, z => by
    obtain ⟨v, vs, rfl, x1, x2⟩ := well_cons x
    have q : plW d = true ∧ plWs ds = true := Bool.and_eq_true_iff.mp p
    obtain ⟨A, a1, a2⟩ := area_one d v x1 q.1 (z d (List.mem_cons_self ..))
    obtain ⟨B, b1, b2⟩ := area_all ds vs x2 q.2 fun e he => z e (List.mem_cons_of_mem _ he)
    have kA : ∀ b ∈ A, b ∈ A ++ B := fun b hb => List.mem_append.mpr (.inl hb)
    have kB : ∀ b ∈ B, b ∈ A ++ B := fun b hb => List.mem_append.mpr (.inr hb)
    refine ⟨A ++ B, fun u hu => ?_, fun b hb => ?_⟩
    · rcases List.mem_cons.mp hu with e | m
      · rw [e]
        exact a1.mono kA
      · exact (b1 u m).mono kB
    · rcases List.mem_append.mp hb with m | m
      · exact (a2 b m).mono kA
      · exact (b2 b m).mono kB
end
end
def hoOf (o : Obj) : Option HO := match o.data with
  | .seq vs _ => if (o.cls == Value.type "list") = true then some (.frz o (.lst (vs.toList.map toV))) else some (.frz o (.tup (vs.toList.map toV)))
  | _ => none
def argH (K : PySem.W.Frag) (h : Heap) (A : List Addr) : Hp := fun b => if b ∈ A then (if (K.lookup b).isNone = true then (h.get? b).bind hoOf else none) else none
def OnlyF (H : Hp) : Prop := ∀ b, H b = none ∨ ∃ o u, H b = some (.frz o u)
theorem hoOf_lst (vs : List Value) : hoOf { cls := .type "list", data := .seq vs.toArray } = some (.frz { cls := .type "list", data := .seq vs.toArray } (.lst (vs.map toV))) := by
  show (if (Value.type "list" == Value.type "list") = true then some (HO.frz { cls := .type "list", data := .seq vs.toArray } (.lst (vs.toArray.toList.map toV))) else some (HO.frz { cls := .type "list", data := .seq vs.toArray } (.tup (vs.toArray.toList.map toV)))) = _
  rw [if_pos (beq_self_eq_true _)]
theorem hoOf_tup (vs : List Value) : hoOf { cls := .type "tuple", data := .seq vs.toArray } = some (.frz { cls := .type "tuple", data := .seq vs.toArray } (.tup (vs.map toV))) := by
  show (if (Value.type "tuple" == Value.type "list") = true then some (HO.frz { cls := .type "tuple", data := .seq vs.toArray } (.lst (vs.toArray.toList.map toV))) else some (HO.frz { cls := .type "tuple", data := .seq vs.toArray } (.tup (vs.toArray.toList.map toV)))) = _
  rw [if_neg (by decide)]
section
variable {P : Program} {w : World} {K : PySem.W.Frag} {h : Heap} {A : List Addr}
theorem argH_at {b : Addr} {o : Obj} (hb : b ∈ A) (hk : K.lookup b = none) (e : h.get? b = some o) : argH K h A b = hoOf o := by
  unfold argH
  rw [if_pos hb, hk, if_pos (show (none : Option Obj).isNone = true from rfl), e] <;> rfl
theorem of_argH {b : Addr} {u : HO} (q : argH K h A b = some u) : b ∈ A ∧ K.lookup b = none := by
  unfold argH at q
  by_cases hb : b ∈ A
  · rw [if_pos hb] at q
    cases hk : K.lookup b with
    | none => exact ⟨hb, rfl⟩
    | some o =>
      rw [hk, if_neg (by simp)] at q
      cases q
  · rw [if_neg hb] at q
    cases q
theorem argH_is (ar : ∀ a ∈ A, ArgOb h A a) {b : Addr} {u : HO} (q : argH K h A b = some u) : K.lookup b = none ∧ ∃ vs : List Value, vs.length ≤ sizeLine ∧ (∀ u ∈ vs, OkU A u) ∧
    ((h.get? b = some { cls := .type "list", data := .seq vs.toArray } ∧ u = .frz { cls := .type "list", data := .seq vs.toArray } (.lst (vs.map toV))) ∨
     (h.get? b = some { cls := .type "tuple", data := .seq vs.toArray } ∧ u = .frz { cls := .type "tuple", data := .seq vs.toArray } (.tup (vs.map toV)))) := by
  obtain ⟨hb, hk⟩ := of_argH q
  obtain ⟨vs, h1, h2, h3⟩ := ar b hb
  refine ⟨hk, vs, h1, h2, ?_⟩
  rcases h3 with e | e
  · rw [argH_at hb hk e, hoOf_lst] at q
    exact .inl ⟨e, (Option.some.inj q).symm⟩
  · rw [argH_at hb hk e, hoOf_tup] at q
    exact .inr ⟨e, (Option.some.inj q).symm⟩
theorem argH_only (ar : ∀ a ∈ A, ArgOb h A a) : OnlyF (argH K h A) := fun b => by
  cases q : argH K h A b with
  | none => exact .inl rfl
  | some u =>
    obtain ⟨_, vs, _, _, ⟨_, e⟩ | ⟨_, e⟩⟩ := argH_is ar q
    · exact .inr ⟨_, _, by rw [e]⟩
    · exact .inr ⟨_, _, by rw [e]⟩
theorem argH_ok (ar : ∀ a ∈ A, ArgOb h A a) : HOk P w (argH K h A) h := fun b u q => by
  obtain ⟨_, vs, h1, h2, ⟨e, rfl⟩ | ⟨e, rfl⟩⟩ := argH_is ar q
  · exact ⟨e, by rw [List.length_map]; exact h1, vs, _, vals_toV h2, e⟩
  · exact ⟨e, by rw [List.length_map]; exact h1, vs, vals_toV h2, _, e, rfl, _, rfl⟩
theorem seq_inj {c c' : Value} {vs us : List Value} (e : (some { cls := c, data := .seq vs.toArray } : Option Obj) = some { cls := c', data := .seq us.toArray }) : c = c' ∧ vs = us := by
  have e1 := Option.some.inj e
  have e2 : c = c' := congrArg Obj.cls e1
  have e3 : Data.seq vs.toArray = Data.seq us.toArray := congrArg Obj.data e1
  injection e3 with e4
  refine ⟨e2, ?_⟩
  have e5 := congrArg Array.toList e4
  simpa using e5
theorem argL (KX : K.In h) (ar : ∀ a ∈ A, ArgOb h A a) {a : Addr} {vs : List Value} (ha : a ∈ A) (e : h.get? a = some { cls := .type "list", data := .seq vs.toArray }) : (∀ u ∈ vs, OkU A u) ∧ SqL K (argH K h A) a (vs.map toV) := by
  obtain ⟨us, h1, h2, h3⟩ := ar a ha
  have hu : us = vs := by
    rcases h3 with q | q
    · rw [e] at q
      exact (seq_inj q).2.symm
    · rw [e] at q
      exact absurd (Value.type.inj (seq_inj q).1) (by decide)
  subst hu
  refine ⟨h2, ?_⟩
  cases hk : K.lookup a with
  | none => exact .inl (.inr ⟨_, by rw [argH_at ha hk e, hoOf_lst]⟩)
  | some o =>
    have e2 := KX a o hk
    rw [e] at e2
    obtain rfl := Option.some.inj e2
    exact .inr ⟨_, us.toArray, _, hk, rfl, rfl, rfl, by rw [List.size_toArray]; exact h1, by simpa using vals_toV h2⟩
theorem argT (KX : K.In h) (ar : ∀ a ∈ A, ArgOb h A a) {a : Addr} {vs : List Value} (ha : a ∈ A) (e : h.get? a = some { cls := .type "tuple", data := .seq vs.toArray }) : (∀ u ∈ vs, OkU A u) ∧ SqT K (argH K h A) a (vs.map toV) := by
  obtain ⟨us, h1, h2, h3⟩ := ar a ha
  have hu : us = vs := by
    rcases h3 with q | q
    · rw [e] at q
      exact absurd (Value.type.inj (seq_inj q).1) (by decide)
    · rw [e] at q
      exact (seq_inj q).2.symm
  subst hu
  refine ⟨h2, ?_⟩
  cases hk : K.lookup a with
  | none => exact .inl (.inr ⟨_, by rw [argH_at ha hk e, hoOf_tup]⟩)
  | some o =>
    have e2 := KX a o hk
    rw [e] at e2
    obtain rfl := Option.some.inj e2
    exact .inr ⟨_, us.toArray, _, hk, rfl, rfl, by rw [List.size_toArray]; exact h1, by simpa using vals_toV h2⟩
mutual
theorem dw_one {Pm : Params} (KX : K.In h) (ar : ∀ a ∈ A, ArgOb h A a) : ∀ (d : WData) (v : Value), Well Pm h v d → plW d = true → OkU A v → Dw K (argH K h A) (toV v) d
  | .none, _, x, _, _ => by
    cases x
    exact .non
  | .bool b, _, x, _, _ => by
    cases x
    exact .bl b
  | .int i, _, x, _, _ => by
    cases x
    exact .int i
  | .str s, _, x, _, _ => by
    cases x
    exact .str s
  | .bytes b, _, x, _, _ => by
    cases x
    have z := Dw.byt (K := K) (H := argH K h A) b.toArray
    exact z
  | .list ds, _, x, p, hu => by
    obtain ⟨a, vs, rfl, ho, hall⟩ := well_list x
    obtain ⟨h2, hs⟩ := argL KX ar hu ho
    exact .lst hs (dw_all KX ar ds _ hall p h2)
  | .tuple ds, _, x, p, hu => by
    obtain ⟨a, vs, rfl, ho, hall⟩ := well_tuple x
    obtain ⟨h2, hs⟩ := argT KX ar hu ho
    exact .tup hs (dw_all KX ar ds _ hall p h2)
  | .float _, _, _, p, _ => Bool.noConfusion (show false = true from p)
  | .dict _, _, _, p, _ => Bool.noConfusion (show false = true from p)
  | .bytearray _, _, _, p, _ => Bool.noConfusion (show false = true from p)
  | .set _, _, _, p, _ => Bool.noConfusion (show false = true from p)
  | .frozenset _, _, _, p, _ => Bool.noConfusion (show false = true from p)
  | .obj _ _, _, _, p, _ => Bool.noConfusion (show false = true from p)
theorem dw_all {Pm : Params} (KX : K.In h) (ar : ∀ a ∈ A, ArgOb h A a) : ∀ (ds : List WData) (vs : List Value), WellAll Pm h vs ds → plWs ds = true → (∀ u ∈ vs, OkU A u) → DwAll K (argH K h A) (vs.map toV) ds
  | [], _, x, _, _ => by
    cases x
    exact .nil
  | d :: ds, _, x, p, hu => by
    obtain ⟨v, vs, rfl, x1, x2⟩ := well_cons x
    have q : plW d = true ∧ plWs ds = true := Bool.and_eq_true_iff.mp p
    exact .cons (dw_one KX ar d v x1 q.1 (hu _ (List.mem_cons_self ..))) (dw_all KX ar ds vs x2 q.2 fun u m => hu u (List.mem_cons_of_mem _ m))
end
end
theorem spec_call {P : Program} {w : World} {K : PySem.W.Frag} {mg mb : Str → Option Value} {CX : CXT} {k : Nat} {fa : Addr} {fd : FuncData} {ps : List Str} {sp : Sp} {s₁ : Shared} {vals : List Value} {ds : List WData} {R : PySem.W.WRecords} {cl : Str → Option Addr} {d0 : WData}
    (KX : K.In s₁.heap) (hns : s₁.heap.Ns mainGlobals mg) (hb : s₁.heap.Ns builtinsNs mb) (hbb : ∀ x : Str, x ≠ "__name__" → mb x = bootBuiltins x) (hlim : s₁.heap.NoLimit) (hg : s₁.gens = #[])
    (hwl : WellAll w.params s₁.heap vals ds) (hpl : plWs ds = true) (hwt : ∀ d ∈ ds, d.weight ≤ 1048576) (hr : Room k callerA)
    (F : ∀ base : Heap, K.In base → base.Ns mainGlobals mg → FnOk P w K mg base CX k fa fd ps sp) (hbind : ∀ (s : Shared) (us : List Value), us.length = ps.length → BindsTo s fd ⟨us, []⟩ (ps.zip us)) (hlen : ds.length = ps.length)
    (hsp : ∀ (H : Hp) (xs : List V), OnlyF H → DwAll K H xs ds → sp xs H (fun v H' => Dw K H' v d0) fun _ _ _ => False)
    (hCX : ∀ H e s', CX [] H s₁ (fun _ _ _ => False) e s' → False) :
    codeAny (model P w) callerA (.call (.ref fa) ⟨vals, []⟩) (fun r s' => ∃ u as, r = .ok (.ret u) ∧ ReadsW R cl s'.heap u d0 as ∧ OldK s₁.heap s'.heap ∧ s'.os = s₁.os ∧ AllBare s'.gens) s₁ := by
  obtain ⟨A, ho, ar⟩ := area_all ds vals hwl hpl hwt
  have hO : OnlyF (argH K s₁.heap A) := argH_only ar
  have hok : HOk P w (argH K s₁.heap A) s₁.heap := argH_ok ar
  have hS := dw_all KX ar ds vals hwl hpl ho
  have hV := vals_toV ho
  have hK : ∀ b u, argH K s₁.heap A b = some u → K.lookup b = none := fun b u q => (argH_is ar q).1
  have noA : ∀ {b : Addr} {o : Obj} {es : Array DictEntry} {ep : Nat}, s₁.heap.get? b = some o → o.data = .dict es ep → argH K s₁.heap A b = none := fun {b o es ep} e d => by
    cases q : argH K s₁.heap A b with
    | none => rfl
    | some u =>
      obtain ⟨_, vs, _, _, ⟨e2, _⟩ | ⟨e2, _⟩⟩ := argH_is ar q
      · rw [e2] at e
        cases e
        have d' : Data.seq vs.toArray _ = Data.dict es ep := d
        cases d'
      · rw [e2] at e
        cases e
        have d' : Data.seq vs.toArray _ = Data.dict es ep := d
        cases d'
  generalize argH K s₁.heap A = H at hO hok hS hK noA
  have base_of : ∀ {b : Addr} {o : Obj}, s₁.heap.get? b = some o → H b = none → (hidT s₁.heap H).get? b = some o := fun e n => hidT_get e n
  have nsK : ∀ {b : Addr} {m : Str → Option Value}, s₁.heap.Ns b m → (hidT s₁.heap H).Ns b m := fun {b m} ⟨o, es, ep, e, d, r⟩ => ⟨o, es, ep, base_of e (noA e d), d, r⟩
  have nK : ∀ b o, K.lookup b = some o → H b = none := fun b o e => by
    cases q : H b with
    | none => rfl
    | some u =>
      rw [hK b u q] at e
      cases e
  have hKb : K.In (hidT s₁.heap H) := fun b o e => base_of (KX b o e) (nK b o e)
  have hM : Mod K mg (hidT s₁.heap H) := ⟨hKb, nsK hns, ⟨mb, nsK hb, hbb⟩, let ⟨mc, h1, h2⟩ := hlim; ⟨mc, nsK h1, h2⟩⟩
  have e0 : Env0 P w K mg (hidT s₁.heap H) callerA [] s₁ H := ⟨rfl, hM, fun b o e => of_hidT e, Nat.le_of_eq (hidT_size _ _), trivial, fun b hb => absurd (show b ∈ ([] : List Addr) from hb) (by simp), hok, .of_eq hg⟩
  have hl : vals.length = ps.length := by rw [wellAll_len hwl]; exact hlen
  refine codeAny_mono ((F _ hKb (nsK hns)).run callerA [] s₁ H ⟨vals, []⟩ vals (vals.map toV) _ _ hr e0 (hbind s₁ vals hl) hV (hsp H _ hO hS)) fun r s' x => ?_
  cases r with
  | error e => exact (hCX H e s' x).elim
  | ok fl =>
    cases fl with
    | next => exact False.elim x
    | brk => exact False.elim x
    | cont => exact False.elim x
    | ret u =>
      obtain ⟨v, H', os, bare, un, hok', r', q⟩ := x
      have kept : ∀ b o, s₁.heap.get? b = some o → s'.heap.get? b = some o := fun b o e => by
        cases q2 : H b with
        | none => exact un.keep b o e q2 (by intro z; exact absurd (show b ∈ ([] : List Addr) from z) (by simp)) (by simp)
        | some u2 =>
          rcases hO b with z | ⟨ob, u3, z⟩
          · rw [q2] at z
            cases z
          · have z2 := un.frzs b ob _ z
            obtain ⟨e1, _⟩ := hok b _ z
            obtain ⟨e2, _⟩ := hok' b _ z2
            rw [e] at e1
            cases e1
            exact e2
      have KX' : K.In s'.heap := fun b o e => kept b o (KX b o e)
      obtain ⟨as, hrd⟩ := Dw.reads (R := R) (cl := cl) hok' KX' d0 v u q r'
      exact ⟨u, as, rfl, hrd, OldK.of_keep kept, os, bare⟩
theorem layable_weight {ds : List WData} (h : WData.layableAll ds = true) : ∀ d ∈ ds, d.weight ≤ 1048576 := fun d hd =>
  (PySem.W.layableW_iff.mp (List.all_eq_true.mp h d hd)).2.2
theorem encAll_len : ∀ (cs : List Codec) (a : Codec.denoteAll cs), (Codec.encAll cs a).length = cs.length
  | [], _ => rfl
  | c :: cs, a => by
    show (Codec.encAll cs a.2).length + 1 = cs.length + 1
    rw [encAll_len cs a.2]
theorem walk_spec {r : OpenSpec} {k : Nat} {q : Program} {loose : List Str} {XP : (Str → Option Value) → Heap → Prop} {YP : World → Heap → Prop} {d : DefRec} {K : Params → PySem.W.Frag} {CX : World → CXT} {ps : List Str} {sp : World → Sp}
    (hwell : r.wellSaid = true) (hdf : d.params.defaults = []) (hlen : r.args.length = ps.length) (hr : Room k callerA)
    (hY : ∀ (w : World) (h : Heap), YP w h → (K w.params).In h)
    (F : ∀ (w : World) (mg : Str → Option Value) (fa : Addr) (h : Heap), YP w h → (K w.params).In h → h.Ns mainGlobals mg → mg d.name = some (.ref fa) →
      ∃ fd : FuncData, (∀ (s : Shared) (us : List Value), us.length = ps.length → BindsTo s fd ⟨us, []⟩ (ps.zip us)) ∧
        ∀ base : Heap, (K w.params).In base → base.Ns mainGlobals mg → FnOk r.prog w (K w.params) mg base (CX w) k fa fd ps (sp w))
    (hsp : ∀ (w : World) (H : Hp) (xs : List V) (a : Codec.denoteAll r.args), OnlyF H → Codec.withinAll r.args a = true → Codec.app r.args r.asked a = true → DwAll (K w.params) H xs (Codec.encAll r.args a) →
      sp w xs H (fun v H' => Dw (K w.params) H' v (r.ret.enc (Codec.app r.args r.f a))) fun _ _ _ => False)
    (hCX : ∀ (w : World) (H : Hp) (s : Shared) (e : Value) (s' : Shared), CX w [] H s (fun _ _ _ => False) e s' → False) :
    PySem.W.WalkOS q loose XP YP r d [] (fun f vs => PySem.call f vs) := by
  intro w s_0 s₁ mg mb G Y fa o pm cd doc dV kV ho hd hcd hD hmg hg args vals as hpre hlay hrd hwl hlo
  obtain ⟨a, e1, e2⟩ := PySem.W.os_pre_some hpre
  obtain ⟨e3, hwi⟩ := Codec.encAll_of_decAll r.args args a e1
  subst e3
  have KX := hY w _ Y
  obtain ⟨fd, hb, hF⟩ := F w mg fa _ Y KX G.T.g hmg
  refine PySem.W.enter_call (codeAny_mono (spec_call (R := []) (cl := classAt s_0.heap) (d0 := r.ret.enc (Codec.app r.args r.f a)) KX G.T.g G.T.b G.T.builtins G.T.nolimit hg hwl (pl_encAll _ _) (layable_weight hlay) hr hF hb (by rw [encAll_len]; exact hlen)
    (fun H xs hO hS => hsp w H xs a hO hwi e2 hS) fun H e s' => hCX w H s₁ e s') fun r' s' hq => ?_)
  obtain ⟨u, as', rfl, h1, h2, h3, h4⟩ := hq
  exact ⟨.inl ⟨u, _, as', rfl, fun _ => rfl, h1, (OpenSpec.post_iff hwell hwi _ _).mpr rfl, fun z => Bool.noConfusion (show false = true from z)⟩, h2, h3, h4⟩
theorem walk_specK {r : OpenSpec} {k : Nat} {q : Program} {loose : List Str} {XP : (Str → Option Value) → Heap → Prop} {YP : World → Heap → Prop} {d : DefRec} {K : Params → PySem.W.Frag} {CX : CXT} {ps : List Str} {sp : PySem.W.Frag → Sp}
    (hwell : r.wellSaid = true) (hdf : d.params.defaults = []) (hlen : r.args.length = ps.length) (hr : Room k callerA)
    (hY : ∀ (w : World) (h : Heap), YP w h → (K w.params).In h)
    (F : ∀ (w : World) (mg : Str → Option Value) (fa : Addr) (h : Heap), YP w h → (K w.params).In h → h.Ns mainGlobals mg → mg d.name = some (.ref fa) →
      ∃ fd : FuncData, (∀ (s : Shared) (us : List Value), us.length = ps.length → BindsTo s fd ⟨us, []⟩ (ps.zip us)) ∧
        ∀ base : Heap, (K w.params).In base → base.Ns mainGlobals mg → FnOk r.prog w (K w.params) mg base CX k fa fd ps (sp (K w.params)))
    (hsp : ∀ (K : PySem.W.Frag) (H : Hp) (xs : List V) (a : Codec.denoteAll r.args), OnlyF H → Codec.withinAll r.args a = true → Codec.app r.args r.asked a = true → DwAll K H xs (Codec.encAll r.args a) →
      sp K xs H (fun v H' => Dw K H' v (r.ret.enc (Codec.app r.args r.f a))) fun _ _ _ => False)
    (hCX : ∀ (H : Hp) (s : Shared) (e : Value) (s' : Shared), CX [] H s (fun _ _ _ => False) e s' → False) :
    PySem.W.WalkOS q loose XP YP r d [] (fun f vs => PySem.call f vs) :=
  walk_spec (K := K) (CX := fun _ => CX) (sp := fun w => sp (K w.params)) hwell hdf hlen hr hY F (fun w H xs a h1 h2 h3 h4 => hsp (K w.params) H xs a h1 h2 h3 h4) fun _ H s e s' => hCX H s e s'
end L2
end

set_option linter.all false
namespace Pn
open Vbdlad
abbrev Js := List (Nat × Nat)
def Adj (js : Js) (y z : Nat) : Prop := (y, z) ∈ js ∨ (z, y) ∈ js
inductive Conn (js : Js) : Nat → Nat → Prop
  | refl (x : Nat) : Conn js x x
  | step {x y z : Nat} : Conn js x y → Adj js y z → Conn js x z
theorem Adj.symm {js : Js} {y z : Nat} (h : Adj js y z) : Adj js z y := Or.symm h
theorem Conn.trans {js : Js} {x y z : Nat} (h : Conn js x y) (k : Conn js y z) : Conn js x z := by
  induction k with
  | refl => exact h
  | step _ a ih => exact ih.step a
theorem Conn.symm {js : Js} {x y : Nat} (h : Conn js x y) : Conn js y x := by
  induction h with
  | refl => exact .refl _
  | step _ a ih => exact (Conn.step (.refl _) a.symm).trans ih
theorem Conn.of_adj {js : Js} {x y : Nat} (h : Adj js x y) : Conn js x y := (Conn.refl x).step h
theorem Conn.mono {js js' : Js} (h : ∀ p, p ∈ js → p ∈ js') {x y : Nat} (k : Conn js x y) : Conn js' x y := by
  induction k with
  | refl => exact .refl _
  | step _ a ih => exact ih.step (a.imp (h _) (h _))
/-- all ends below n -/
def Below (n : Nat) (js : Js) : Prop := ∀ p, p ∈ js → p.1 < n ∧ p.2 < n
theorem Below.adj {n : Nat} {js : Js} (h : Below n js) {y z : Nat} (a : Adj js y z) : y < n ∧ z < n := by
  rcases a with a | a
  · exact h _ a
  · exact (h _ a).symm
theorem Below.conn {n : Nat} {js : Js} (h : Below n js) {x y : Nat} (a : Conn js x y) (hx : x < n) : y < n := by
  cases a with
  | refl => exact hx
  | step _ a => exact (h.adj a).2
theorem Below.mono {n m : Nat} {js : Js} (h : Below n js) (k : n ≤ m) : Below m js := fun p hp => ⟨Nat.lt_of_lt_of_le (h p hp).1 k, Nat.lt_of_lt_of_le (h p hp).2 k⟩

theorem mem_grow {js : Js} {l : List Nat} {z : Nat} : z ∈ grow js l ↔ z ∉ l ∧ ∃ y, y ∈ l ∧ Adj js y z := by
  unfold grow
  rw [List.mem_eraseDups, List.mem_flatMap]
  constructor
  · rintro ⟨⟨a, b⟩, hj, hz⟩
    simp only [List.contains_iff_mem, Bool.and_eq_true, Bool.not_eq_true', ← Bool.not_eq_true] at hz
    split at hz
    · rename_i h
      simp at hz h
      subst hz
      exact ⟨h.2, a, h.1, .inl hj⟩
    · split at hz
      · rename_i h
        simp at hz h
        subst hz
        exact ⟨h.2, b, h.1, .inr hj⟩
      · cases hz
  · rintro ⟨hz, y, hy, a | a⟩
    · refine ⟨_, a, ?_⟩
      simp [hy, hz]
    · refine ⟨_, a, ?_⟩
      simp [hy, hz]
theorem rounds_sub {js : Js} : ∀ (f : Nat) (l : List Nat) {x : Nat}, x ∈ l → x ∈ rounds js f l
  | 0, l, x, h => h
  | f + 1, l, x, h => by
    unfold rounds
    split
    · exact h
    · exact rounds_sub f _ (List.mem_append_left _ h)
theorem rounds_sound {js : Js} : ∀ (f : Nat) (l : List Nat) {z : Nat}, z ∈ rounds js f l → ∃ x, x ∈ l ∧ Conn js x z
  | 0, l, z, h => ⟨z, h, .refl z⟩
  | f + 1, l, z, h => by
    unfold rounds at h
    split at h
    · exact ⟨z, h, .refl z⟩
    · obtain ⟨x, hx, c⟩ := rounds_sound f _ h
      rcases List.mem_append.mp hx with hx | hx
      · exact ⟨x, hx, c⟩
      · obtain ⟨_, y, hy, a⟩ := mem_grow.mp hx
        exact ⟨y, hy, (Conn.of_adj a).trans c⟩
def card (l : List Nat) : Nat := (List.range 24).countP fun x => l.contains x
theorem countP_lt {α : Type} {p q : α → Bool} : ∀ {l : List α}, (∀ x, x ∈ l → p x = true → q x = true) → (∃ z, z ∈ l ∧ p z = false ∧ q z = true) → l.countP p < l.countP q
  | [], _, h => by obtain ⟨z, hz, _⟩ := h; cases hz
  | a :: l, h, ⟨z, hz, h1, h2⟩ => by
    have hm : l.countP p ≤ l.countP q := List.countP_mono_left fun x hx => h x (List.mem_cons_of_mem _ hx)
    rw [List.countP_cons, List.countP_cons]
    rcases List.mem_cons.mp hz with e | hz
    · subst e
      simp [h1, h2]
      omega
    · have ih := countP_lt (l := l) (fun x hx => h x (List.mem_cons_of_mem _ hx)) ⟨z, hz, h1, h2⟩
      have ha := h a (List.mem_cons_self)
      by_cases e : p a = true
      · simp [e, ha e]
        omega
      · by_cases e2 : q a = true <;> simp [e, e2] <;> omega
theorem card_lt {l l' : List Nat} {z : Nat} (hz : z < 24) (h : z ∉ l) (h' : z ∈ l') (sub : ∀ x, x ∈ l → x ∈ l') : card l < card l' :=
  countP_lt (fun x _ e => by simp at e ⊢; exact sub x e) ⟨z, List.mem_range.mpr hz, by simpa using h, by simpa using h'⟩
theorem card_full {l : List Nat} (h : 24 ≤ card l) {z : Nat} (hz : z < 24) : z ∈ l := by
  have e : card l = (List.range 24).length := Nat.le_antisymm List.countP_le_length (by simpa using h)
  have := List.countP_eq_length.mp e z (List.mem_range.mpr hz)
  simpa using this
theorem rounds_closed {js : Js} (hb : Below 24 js) : ∀ (f : Nat) (l : List Nat), 24 ≤ card l + f → ∀ {y z : Nat}, y ∈ rounds js f l → Adj js y z → z ∈ rounds js f l
  | 0, l, h, y, z, hy, a => card_full (l := l) (by omega) (hb.adj a).2
  | f + 1, l, h, y, z, hy, a => by
    unfold rounds at hy ⊢
    split
    · rename_i e
      rw [e] at hy
      apply Classical.byContradiction
      intro hz
      have : z ∈ grow js l := mem_grow.mpr ⟨hz, y, hy, a⟩
      rw [e] at this
      cases this
    · rename_i e
      split at hy
      · rename_i e'
        exact absurd e' e
      · refine rounds_closed hb f _ ?_ hy a
        obtain ⟨g, gs, e2⟩ := List.exists_cons_of_ne_nil (fun q => e q)
        have hg : g ∈ grow js l := by rw [e2]; exact List.mem_cons_self
        obtain ⟨h1, y', hy', a'⟩ := mem_grow.mp hg
        have := card_lt (l := l) (l' := l ++ grow js l) (hb.adj a').2 h1 (List.mem_append_right _ hg) fun x hx => List.mem_append_left _ hx
        omega
theorem mem_rounds {js : Js} (hb : Below 24 js) {l : List Nat} {z : Nat} : z ∈ rounds js NODES l ↔ ∃ x, x ∈ l ∧ Conn js x z := by
  constructor
  · exact rounds_sound _ _
  · rintro ⟨x, hx, c⟩
    induction c with
    | refl => exact rounds_sub _ _ hx
    | step _ a ih => exact rounds_closed hb _ _ (by unfold NODES; omega) ih a
theorem mem_reach {js : Js} (hb : Below 24 js) {x z : Nat} : z ∈ reach js x ↔ Conn js x z := by
  unfold reach
  rw [mem_rounds hb]
  simp
theorem joinedBy_iff {js : Js} (hb : Below 24 js) {x y : Nat} : joinedBy js x y = true ↔ Conn js x y := by
  unfold joinedBy
  rw [List.contains_iff_mem, mem_reach hb]

/-! ### the relabelling -/
def relab (low high t : Nat) : Nat := if t = high then low else t
def joinStep (least : List Nat) (p : Nat × Nat) : List Nat :=
  if min (least.getD p.1 0) (least.getD p.2 0) ≠ max (least.getD p.1 0) (least.getD p.2 0) then least.map (relab (min (least.getD p.1 0) (least.getD p.2 0)) (max (least.getD p.1 0) (least.getD p.2 0))) else least
def leastJ (n : Nat) (js : Js) : List Nat := js.foldl joinStep (List.range n)
theorem joinStep_map (least : List Nat) (p : Nat × Nat) : joinStep least p = least.map (relab (min (least.getD p.1 0) (least.getD p.2 0)) (max (least.getD p.1 0) (least.getD p.2 0))) := by
  unfold joinStep
  split
  · rfl
  · rename_i h
    have h := Classical.byContradiction h
    have e : ∀ t, relab (min (least.getD p.1 0) (least.getD p.2 0)) (max (least.getD p.1 0) (least.getD p.2 0)) t = t := by
      intro t
      unfold relab
      split
      · omega
      · rfl
    rw [List.map_congr_left (g := id) fun t _ => e t, List.map_id]
theorem getD_map {f : Nat → Nat} {l : List Nat} {x : Nat} (h : x < l.length) : (l.map f).getD x 0 = f (l.getD x 0) := by
  simp [List.getD_eq_getElem?_getD, h]
structure LInv (n : Nat) (js : Js) (least : List Nat) : Prop where
  len : least.length = n
  le : ∀ x, x < n → least.getD x 0 ≤ x
  con : ∀ x, x < n → Conn js x (least.getD x 0)
  eq : ∀ x y, x < n → Conn js x y → least.getD x 0 = least.getD y 0
theorem LInv.nil (n : Nat) : LInv n [] (List.range n) := by
  have g : ∀ x, x < n → (List.range n).getD x 0 = x := fun x h => by simp [List.getD_eq_getElem?_getD, h]
  refine ⟨by simp, fun x h => by rw [g x h]; exact Nat.le_refl x, fun x h => by rw [g x h]; exact .refl x, fun x y h c => ?_⟩
  cases c with
  | refl => rfl
  | step _ a => rcases a with a | a <;> cases a
theorem LInv.snoc {n : Nat} {js : Js} {least : List Nat} (I : LInv n js least) (hb : Below n js) {a b : Nat} (ha : a < n) (hbn : b < n) : LInv n (js ++ [(a, b)]) (joinStep least (a, b)) := by
  have hb' : Below n (js ++ [(a, b)]) := by
    intro p hp
    rcases List.mem_append.mp hp with hp | hp
    · exact hb p hp
    · simp at hp
      subst hp
      exact ⟨ha, hbn⟩
  have sub : ∀ p, p ∈ js → p ∈ js ++ [(a, b)] := fun p hp => List.mem_append_left _ hp
  rw [joinStep_map]
  generalize hla : least.getD a 0 = la
  generalize hlb : least.getD b 0 = lb
  have g : ∀ x, x < n → (least.map (relab (min la lb) (max la lb))).getD x 0 = relab (min la lb) (max la lb) (least.getD x 0) := fun x h => getD_map (by rw [I.len]; exact h)
  have cab : Conn (js ++ [(a, b)]) a b := .of_adj (.inl (by simp))
  have cla : Conn (js ++ [(a, b)]) a la := hla ▸ (I.con a ha).mono sub
  have clb : Conn (js ++ [(a, b)]) b lb := hlb ▸ (I.con b hbn).mono sub
  refine ⟨by simp [I.len], fun x h => ?_, fun x h => ?_, fun x y h c => ?_⟩
  · rw [g x h]
    have := I.le x h
    unfold relab
    split <;> omega
  · rw [g x h]
    have c := (I.con x h).mono sub
    unfold relab
    split
    · rename_i e
      rw [e] at c
      refine c.trans ?_
      by_cases hh : la ≤ lb
      · rw [Nat.max_eq_right hh, Nat.min_eq_left hh]
        exact clb.symm.trans (cab.symm.trans cla)
      · rw [Nat.max_eq_left (by omega), Nat.min_eq_right (by omega)]
        exact cla.symm.trans (cab.trans clb)
    · exact c
  · have hx := h
    induction c with
    | refl => rfl
    | step c a' ih =>
      rename_i y z
      rw [ih]
      have hyz := hb'.adj a'
      rw [g y hyz.1, g z hyz.2]
      have key : (least.getD y 0 = least.getD z 0) ∨ (y = a ∧ z = b) ∨ (y = b ∧ z = a) := by
        rcases a' with a' | a'
        · rcases List.mem_append.mp a' with q | q
          · exact .inl (I.eq y z hyz.1 (.of_adj (.inl q)))
          · simp at q
            exact .inr (.inl q)
        · rcases List.mem_append.mp a' with q | q
          · exact .inl (I.eq y z hyz.1 (.of_adj (.inr q)))
          · simp at q
            exact .inr (.inr ⟨q.2, q.1⟩)
      rcases key with e | ⟨rfl, rfl⟩ | ⟨rfl, rfl⟩
      · rw [e]
      · rw [hla, hlb]
        unfold relab
        split <;> split <;> omega
      · rw [hla, hlb]
        unfold relab
        split <;> split <;> omega
theorem linv_fold {n : Nat} : ∀ (js done : Js) (least : List Nat), LInv n done least → Below n done → Below n js → LInv n (done ++ js) (js.foldl joinStep least)
  | [], done, least, I, _, _ => by simpa using I
  | p :: js, done, least, I, hd, hj => by
    have hp := hj p List.mem_cons_self
    have hd' : Below n (done ++ [p]) := by
      intro q hq
      rcases List.mem_append.mp hq with hq | hq
      · exact hd q hq
      · simp at hq
        subst hq
        exact hp
    have := linv_fold js (done ++ [p]) (joinStep least p) (I.snoc hd hp.1 hp.2) hd' fun q hq => hj q (List.mem_cons_of_mem _ hq)
    simpa using this
theorem linv (n : Nat) (js : Js) (h : Below n js) : LInv n js (leastJ n js) := by
  have := linv_fold (n := n) js [] (List.range n) (LInv.nil n) (fun p hp => by cases hp) h
  simpa [leastJ] using this
theorem leastJ_len (n : Nat) (js : Js) (h : Below n js) : (leastJ n js).length = n := (linv n js h).len
theorem least_eq_iff {n : Nat} {js : Js} (h : Below n js) {x y : Nat} (hx : x < n) (hy : y < n) : (leastJ n js).getD x 0 = (leastJ n js).getD y 0 ↔ Conn js x y := by
  have I := linv n js h
  constructor
  · intro e
    have c := I.con x hx
    rw [e] at c
    exact c.trans (I.con y hy).symm
  · exact I.eq x y hx
theorem joinedBy_least {n : Nat} {js : Js} (h : Below n js) (hn : n ≤ 24) {x y : Nat} (hx : x < n) (hy : y < n) : joinedBy js x y = decide ((leastJ n js).getD x 0 = (leastJ n js).getD y 0) := by
  rw [Bool.eq_iff_iff, joinedBy_iff (h.mono hn), decide_eq_true_iff, least_eq_iff h hx hy]
theorem conn_congr {js js' : Js} (h : ∀ p, p ∈ js ↔ p ∈ js') {x y : Nat} : Conn js x y ↔ Conn js' x y := ⟨.mono fun p => (h p).mp, .mono fun p => (h p).mpr⟩
end Pn

set_option linter.all false
namespace Pn
open Vbdlad
structure WfV (n : Nat) (v : Valve) : Prop where
  a : v.a < n
  b : v.b < n
  tr : v.travel ≤ 60
  pl : v.place ≤ v.travel
structure WfP (n : Nat) (p : Pump) : Prop where
  a : p.a < n
  b : p.b < n
  den : 1 ≤ p.den ∧ p.den ≤ 1000000
  stroke : p.stroke ≤ 1000000
  per : 1 ≤ p.per ∧ p.per ≤ 64
  tg : -(p.den : Int) ≤ p.target ∧ p.target ≤ (p.den : Int)
  sp : -(p.den : Int) ≤ p.speed ∧ p.speed ≤ (p.den : Int)
  ac : -(p.den : Int) < p.acc ∧ p.acc < (p.den : Int)
  ft : p.fault ≠ 0 → p.target = 0 ∧ p.speed = 0
/-- what every state that calls lead to keeps -/
structure Wf (s : St) : Prop where
  n24 : s.nodes.length ≤ 24
  fl : ∀ f, f ∈ s.nodes → f ≤ 3
  pi : Below s.nodes.length s.pipes
  piL : s.pipes.length ≤ 48
  va : ∀ v, v ∈ s.valves → WfV s.nodes.length v
  vaL : s.valves.length ≤ 48
  fo : Below s.nodes.length s.forbidden
  foL : s.forbidden.length ≤ 24
  foN : s.forbidden.Pairwise fun p q => sameEnds p q = false
  pu : ∀ p, p ∈ s.pumps → WfP s.nodes.length p
  puL : s.pumps.length ≤ 8
theorem Wf.joints {s : St} (w : Wf s) : Below s.nodes.length (joints s) := by
  intro p hp
  unfold Vbdlad.joints at hp
  rcases List.mem_append.mp hp with hp | hp
  · exact w.pi p hp
  · obtain ⟨v, hv, e⟩ := List.mem_map.mp hp
    have := w.va v (List.mem_filter.mp hv).1
    subst e
    exact ⟨this.a, this.b⟩
theorem Below.snoc {n : Nat} {js : Js} (h : Below n js) {a b : Nat} (ha : a < n) (hb : b < n) : Below n (js ++ [(a, b)]) := by
  intro p hp
  rcases List.mem_append.mp hp with hp | hp
  · exact h p hp
  · simp at hp
    subst hp
    exact ⟨ha, hb⟩
theorem joined_eq {s : St} (w : Wf s) {a b : Nat} (ha : a < s.nodes.length) (hb : b < s.nodes.length) : joined s a b = decide ((leastJ s.nodes.length (joints s)).getD a 0 = (leastJ s.nodes.length (joints s)).getD b 0) :=
  joinedBy_least w.joints w.n24 ha hb
theorem find_least {n x m : Nat} {q : Nat → Bool} (hm : m < n) (hq : q m = true) (hl : ∀ y, y < n → q y = true → m ≤ y) : ((List.range n).find? q).getD x = m := by
  have : (List.range n).find? q = some m := by
    rw [List.find?_range_eq_some]
    exact ⟨hq, List.mem_range.mpr hm, fun j hj => by
      cases e : q j with
      | false => rfl
      | true => have := hl j (by omega) e; omega⟩
  rw [this]
  rfl
theorem island_eq {s : St} (w : Wf s) {x : Nat} (hx : x < s.nodes.length) : island s x = (leastJ s.nodes.length (joints s)).getD x 0 := by
  have I := linv _ _ w.joints
  have hle := I.le x hx
  have hlt : (leastJ s.nodes.length (joints s)).getD x 0 < s.nodes.length := by omega
  refine find_least hlt ?_ fun y hy e => ?_
  · exact (joinedBy_iff (w.joints.mono w.n24)).mpr (I.con x hx)
  · have c := (joinedBy_iff (w.joints.mono w.n24)).mp e
    rw [I.eq x y hx c]
    exact I.le y hy
theorem islands_eq {s : St} (w : Wf s) : (numbers s).map (fun x => island s x) = leastJ s.nodes.length (joints s) := by
  apply List.ext_getElem
  · simp [numbers, leastJ_len _ _ w.joints]
  · intro i h1 h2
    simp only [numbers, List.getElem_map, List.getElem_range]
    have hi : i < s.nodes.length := by simpa [numbers] using h1
    rw [island_eq w hi]
    simp [List.getD_eq_getElem?_getD, h2]
/-- the forbidden pairs that lie on one island -/
def brokenL (least : List Nat) (l : Js) : Js := l.filter fun p => decide (least.getD p.1 0 = least.getD p.2 0)
theorem would_eq {s : St} (w : Wf s) {a b : Nat} (ha : a < s.nodes.length) (hb : b < s.nodes.length) : wouldJoin s a b = brokenL (leastJ s.nodes.length (joints s ++ [(a, b)])) s.forbidden := by
  unfold wouldJoin broken brokenL
  apply List.filter_congr
  intro p hp
  exact joinedBy_least (w.joints.snoc ha hb) w.n24 (w.fo p hp).1 (w.fo p hp).2
/-! ### flow -/
def hasBit (wanted f : Nat) : Bool := f &&& wanted != 0
def reachedL (least flags : List Nat) (wanted : Nat) : List Bool := least.map fun low => (least.zip flags).any fun p => p.1 == low && hasBit wanted p.2
theorem bits_ok {f : Nat} (h : f ≤ 3) : hasBit 1 f = f.testBit 0 ∧ hasBit 2 f = f.testBit 1 := by
  match f, h with
  | 0, _ => decide
  | 1, _ => decide
  | 2, _ => decide
  | 3, _ => decide
theorem meets_eq {s : St} (w : Wf s) {js : Js} (hj : Below s.nodes.length js) {x flag : Nat} (hx : x < s.nodes.length) (hf : flag = 1 ∨ flag = 2) :
    meets s js x flag = (reachedL (leastJ s.nodes.length js) s.nodes flag).getD x false := by
  have I := linv _ _ hj
  have hlen := I.len
  have hb : ∀ f, f ≤ 3 → hasBit flag f = f.testBit (flag - 1) := by
    intro f h
    rcases hf with rfl | rfl
    · exact (bits_ok h).1
    · exact (bits_ok h).2
  have g : (reachedL (leastJ s.nodes.length js) s.nodes flag).getD x false = ((leastJ s.nodes.length js).zip s.nodes).any fun p => p.1 == (leastJ s.nodes.length js).getD x 0 && hasBit flag p.2 := by
    unfold reachedL
    have hx' : x < (leastJ s.nodes.length js).length := by omega
    simp [List.getD_eq_getElem?_getD, hx']
  rw [g, Bool.eq_iff_iff]
  unfold meets
  rw [List.any_eq_true, List.any_eq_true]
  constructor
  · rintro ⟨y, hy, e⟩
    have c := (mem_reach (hj.mono w.n24)).mp hy
    have hyn := hj.conn c hx
    have hy' : y < (leastJ s.nodes.length js).length := by omega
    refine ⟨((leastJ s.nodes.length js)[y], s.nodes[y]), ?_, ?_⟩
    · rw [List.mem_iff_getElem?]
      exact ⟨y, by simp [List.getElem?_zip_eq_some, hyn, hy']⟩
    · have e1 := I.eq x y hx c
      have e2 : (leastJ s.nodes.length js).getD y 0 = (leastJ s.nodes.length js)[y] := by simp [List.getD_eq_getElem?_getD, hy']
      have e3 : s.nodes.getD y 0 = s.nodes[y] := by simp [List.getD_eq_getElem?_getD, hyn]
      rw [e3] at e
      rw [Bool.and_eq_true, hb _ (w.fl _ (List.getElem_mem hyn))]
      exact ⟨by rw [e1, e2]; exact beq_self_eq_true _, e⟩
  · rintro ⟨⟨l, f⟩, hp, e⟩
    obtain ⟨y, hy⟩ := List.mem_iff_getElem?.mp hp
    rw [List.getElem?_zip_eq_some] at hy
    obtain ⟨h1, h2⟩ := hy
    obtain ⟨hy1, e1⟩ := List.getElem?_eq_some_iff.mp h1
    obtain ⟨hy2, e2⟩ := List.getElem?_eq_some_iff.mp h2
    rw [Bool.and_eq_true] at e
    have e3 : l = (leastJ s.nodes.length js).getD x 0 := eq_of_beq e.1
    refine ⟨y, (mem_reach (hj.mono w.n24)).mpr ?_, ?_⟩
    · refine (least_eq_iff hj hx hy2).mp ?_
      rw [← e3, List.getD_eq_getElem?_getD, h1]
      rfl
    · have : s.nodes.getD y 0 = f := by rw [List.getD_eq_getElem?_getD, h2]; rfl
      rw [this, ← hb f (w.fl f (List.mem_of_getElem? h2))]
      exact e.2
/-! ### bridges -/
def others (i : Nat) : Nat → List Valve → Js
  | _, [] => []
  | k, v :: r => if k ≠ i ∧ counts v = true then (v.a, v.b) :: others i (k + 1) r else others i (k + 1) r
theorem others_range (i : Nat) (vs : List Valve) : ∀ (r : List Valve) (k : Nat), (∀ j, r[j]? = vs[k + j]?) → ((List.range' k r.length).filterMap fun j => match vs[j]? with
    | some w => if j ≠ i ∧ counts w = true then some (w.a, w.b) else none
    | none => none) = others i k r
  | [], k, h => by simp [others]
  | v :: r, k, h => by
    have h0 : vs[k]? = some v := by simpa using (h 0).symm
    have ih := others_range i vs r (k + 1) fun j => by
      have := h (j + 1)
      rw [List.getElem?_cons_succ] at this
      rw [this]
      congr 1
      omega
    rw [List.length_cons, List.range'_succ, List.filterMap_cons, h0]
    simp only [others]
    split
    · rename_i e
      split at e
      · cases e
      · rename_i q
        rw [if_neg q]
        exact ih
    · rename_i p e
      split at e
      · rename_i q
        cases e
        rw [if_pos q]
        exact congrArg _ ih
      · cases e
theorem others_far {i : Nat} : ∀ (r : List Valve) (k : Nat), i < k → others i k r = (r.filter counts).map fun v => (v.a, v.b)
  | [], k, h => rfl
  | v :: r, k, h => by
    have ih := others_far (i := i) r (k + 1) (by omega)
    unfold others
    by_cases c : counts v = true
    · rw [if_pos ⟨(show k ≠ i by omega), c⟩, ih, List.filter_cons, if_pos c]
      rfl
    · rw [if_neg (fun q => c q.2), ih, List.filter_cons, if_neg c]
theorem others_perm {i : Nat} {v : Valve} (c : counts v = true) : ∀ (r : List Valve) (k : Nat), k ≤ i → r[i - k]? = some v → ((r.filter counts).map fun v => (v.a, v.b)).Perm ((v.a, v.b) :: others i k r)
  | [], k, _, h => by simp at h
  | u :: r, k, hk, h => by
    by_cases e : k = i
    · subst e
      have : u = v := by simpa using h
      subst this
      unfold others
      rw [if_neg (fun q => q.1 rfl), others_far r (k + 1) (by omega), List.filter_cons, if_pos c]
      exact List.Perm.refl _
    · have e1 : i - k = (i - (k + 1)) + 1 := by omega
      rw [e1, List.getElem?_cons_succ] at h
      have ih := others_perm c r (k + 1) (by omega) h
      unfold others
      by_cases cu : counts u = true
      · rw [if_pos ⟨e, cu⟩, List.filter_cons, if_pos cu]
        exact (List.Perm.cons (u.a, u.b) ih).trans (List.Perm.swap _ _ _)
      · rw [if_neg (fun q => cu q.2), List.filter_cons, if_neg cu]
        exact ih
theorem bridge_eq {s : St} (w : Wf s) {i : Nat} {v : Valve} (h : s.valves[i]? = some v) :
    bridge s i = (counts v && !decide ((leastJ s.nodes.length ((joints s).erase (v.a, v.b))).getD v.a 0 = (leastJ s.nodes.length ((joints s).erase (v.a, v.b))).getD v.b 0)) := by
  unfold bridge
  rw [h]
  simp only
  cases c : counts v with
  | false => rfl
  | true =>
    simp only [Bool.true_and]
    congr 1
    have hv := w.va v (List.mem_of_getElem? h)
    have e := others_range i s.valves s.valves 0 (fun j => by simp)
    rw [← List.range_eq_range'] at e
    have p := others_perm (i := i) c s.valves 0 (Nat.zero_le _) (by simpa using h)
    have p2 : (joints s).Perm ((v.a, v.b) :: (s.pipes ++ others i 0 s.valves)) := by
      unfold joints
      exact (List.Perm.append_left _ p).trans List.perm_middle
    have p3 : ((joints s).erase (v.a, v.b)).Perm (s.pipes ++ others i 0 s.valves) := by
      have := p2.erase (v.a, v.b)
      rwa [List.erase_cons_head] at this
    have hbl : Below s.nodes.length ((joints s).erase (v.a, v.b)) := fun q hq => w.joints q (List.mem_of_mem_erase hq)
    rw [Bool.eq_iff_iff, ← joinedBy_least hbl w.n24 hv.a hv.b, joinedBy_iff (hbl.mono w.n24)]
    refine Iff.trans (joinedBy_iff ?_) ?_
    · intro q hq
      have hq' : q ∈ s.pipes ++ others i 0 s.valves := by rw [← e]; exact hq
      exact (hbl.mono w.n24) q (p3.mem_iff.mpr hq')
    · refine conn_congr fun q => ?_
      rw [p3.mem_iff, ← e]
      exact Iff.rfl
end Pn

set_option linter.all false
namespace Pn
open Vbdlad
/-! ### ways through so many valves -/
def openV (s : St) : Js := (s.valves.filter counts).map fun v => (v.a, v.b)
def Wk (s : St) : Nat → Nat → Nat → Prop
  | 0, x, y => Conn s.pipes x y
  | k + 1, x, y => ∃ u v, Conn s.pipes x u ∧ Adj (openV s) u v ∧ Wk s k v y
theorem Wk.left {s : St} {k x x' y : Nat} (c : Conn s.pipes x x') (h : Wk s k x' y) : Wk s k x y := by
  cases k with
  | zero => exact c.trans h
  | succ k =>
    obtain ⟨u, v, h1, h2, h3⟩ := h
    exact ⟨u, v, c.trans h1, h2, h3⟩
/-- P: y lies within k valves of l -/
def Near (s : St) (y : Nat) (l : List Nat) (k : Nat) : Prop := ∃ x, x ∈ l ∧ ∃ j, j ≤ k ∧ Wk s j x y
theorem mem_byPipes {s : St} (w : Wf s) {l : List Nat} {z : Nat} : z ∈ byPipes s l ↔ ∃ x, x ∈ l ∧ Conn s.pipes x z := mem_rounds (w.pi.mono w.n24)
theorem mem_across {s : St} (w : Wf s) {l : List Nat} {z : Nat} : z ∈ across s l ↔ ∃ x, x ∈ l ∧ (Wk s 0 x z ∨ Wk s 1 x z) := by
  unfold across
  simp only
  rw [mem_byPipes w]
  constructor
  · rintro ⟨t, ht, c⟩
    rcases List.mem_append.mp ht with ht | ht
    · obtain ⟨x, hx, c'⟩ := (mem_byPipes w).mp ht
      exact ⟨x, hx, .inl (c'.trans c)⟩
    · rw [List.mem_eraseDups, List.mem_flatMap] at ht
      obtain ⟨v, hv, ht⟩ := ht
      have hj : (v.a, v.b) ∈ openV s := List.mem_map.mpr ⟨v, hv, rfl⟩
      split at ht
      · rename_i h
        simp at ht
        subst ht
        obtain ⟨x, hx, c'⟩ := (mem_byPipes w).mp (List.contains_iff_mem.mp h)
        exact ⟨x, hx, .inr ⟨v.a, v.b, c', .inl hj, c⟩⟩
      · split at ht
        · rename_i h
          simp at ht
          subst ht
          obtain ⟨x, hx, c'⟩ := (mem_byPipes w).mp (List.contains_iff_mem.mp h)
          exact ⟨x, hx, .inr ⟨v.b, v.a, c', .inr hj, c⟩⟩
        · cases ht
  · rintro ⟨x, hx, c | ⟨u, t, c1, a, c2⟩⟩
    · exact ⟨x, List.mem_append_left _ ((mem_byPipes w).mpr ⟨x, hx, .refl x⟩), c⟩
    · have hu : u ∈ byPipes s l := (mem_byPipes w).mpr ⟨x, hx, c1⟩
      refine ⟨t, ?_, c2⟩
      rcases a with a | a
      · obtain ⟨v, hv, e⟩ := List.mem_map.mp a
        cases e
        refine List.mem_append_right _ ?_
        rw [List.mem_eraseDups, List.mem_flatMap]
        exact ⟨v, hv, by rw [if_pos (List.contains_iff_mem.mpr hu)]; exact List.mem_cons_self⟩
      · obtain ⟨v, hv, e⟩ := List.mem_map.mp a
        cases e
        by_cases hva : v.a ∈ byPipes s l
        · exact List.mem_append_left _ hva
        · refine List.mem_append_right _ ?_
          rw [List.mem_eraseDups, List.mem_flatMap]
          exact ⟨v, hv, by rw [if_neg (fun q => hva (List.contains_iff_mem.mp q)), if_pos (List.contains_iff_mem.mpr hu)]; exact List.mem_cons_self⟩
theorem near_zero {s : St} (w : Wf s) {y : Nat} {l : List Nat} : (byPipes s l).contains y = true ↔ Near s y l 0 := by
  rw [List.contains_iff_mem, mem_byPipes w]
  constructor
  · rintro ⟨x, hx, c⟩
    exact ⟨x, hx, 0, Nat.le_refl _, c⟩
  · rintro ⟨x, hx, j, hj, c⟩
    have : j = 0 := by omega
    subst this
    exact ⟨x, hx, c⟩
theorem near_across {s : St} (w : Wf s) {y : Nat} {l : List Nat} {k : Nat} : Near s y (across s l) k ↔ Near s y l (k + 1) := by
  constructor
  · rintro ⟨z, hz, j, hj, c⟩
    obtain ⟨x, hx, c' | ⟨u, t, c1, a, c2⟩⟩ := (mem_across w).mp hz
    · exact ⟨x, hx, j, by omega, c.left c'⟩
    · exact ⟨x, hx, j + 1, by omega, u, t, c1, a, c.left c2⟩
  · rintro ⟨x, hx, j, hj, c⟩
    cases j with
    | zero => exact ⟨x, (mem_across w).mpr ⟨x, hx, .inl (.refl x)⟩, 0, Nat.zero_le _, c⟩
    | succ j =>
      obtain ⟨u, t, c1, a, c2⟩ := c
      exact ⟨t, (mem_across w).mpr ⟨x, hx, .inr ⟨u, t, c1, a, .refl t⟩⟩, j, by omega, c2⟩
theorem distance_ok {s : St} (w : Wf s) (y : Nat) : ∀ (f d : Nat) (l : List Nat), match distance s y f d l with
    | some e => ∃ k, e = d + k ∧ k ≤ f ∧ Near s y l k ∧ ∀ j, j < k → ¬ Near s y l j
    | none => ∀ k, k ≤ f → ¬ Near s y l k
  | 0, d, l => by
    unfold distance
    by_cases h : (byPipes s l).contains y = true
    · rw [if_pos h]
      exact ⟨0, rfl, Nat.le_refl _, (near_zero w).mp h, fun j hj => absurd hj (Nat.not_lt_zero j)⟩
    · rw [if_neg h]
      intro k hk
      have : k = 0 := by omega
      subst this
      exact fun q => h ((near_zero w).mpr q)
  | f + 1, d, l => by
    unfold distance
    by_cases h : (byPipes s l).contains y = true
    · rw [if_pos h]
      exact ⟨0, rfl, Nat.zero_le _, (near_zero w).mp h, fun j hj => absurd hj (Nat.not_lt_zero j)⟩
    · rw [if_neg h]
      have ih := distance_ok w y f (d + 1) (across s l)
      have h0 : ¬ Near s y l 0 := fun q => h ((near_zero w).mpr q)
      split
      · rename_i e he
        rw [he] at ih
        obtain ⟨k, h1, h2, h3, h4⟩ := ih
        refine ⟨k + 1, by omega, by omega, (near_across w).mp h3, fun j hj => ?_⟩
        cases j with
        | zero => exact h0
        | succ j => exact fun q => h4 j (by omega) ((near_across w).mpr q)
      · rename_i he
        rw [he] at ih
        intro k hk
        cases k with
        | zero => exact h0
        | succ k => exact fun q => ih k (by omega) ((near_across w).mpr q)
/-- the least number of valves -/
def Dist (s : St) (x y d : Nat) : Prop := Wk s d x y ∧ ∀ k, k < d → ¬ Wk s k x y
theorem Dist.uniq {s : St} {x y d e : Nat} (h : Dist s x y d) (k : Dist s x y e) : d = e := by
  rcases Nat.lt_trichotomy d e with q | q | q
  · exact absurd h.1 (k.2 d q)
  · exact q
  · exact absurd k.1 (h.2 e q)
theorem dist_of {s : St} {x y : Nat} : ∀ (k : Nat), Wk s k x y → ∃ d, d ≤ k ∧ Dist s x y d := by
  intro k
  induction k using Nat.strongRecOn with
  | _ k ih =>
    intro h
    by_cases q : ∃ j, j < k ∧ Wk s j x y
    · obtain ⟨j, hj, hw⟩ := q
      obtain ⟨d, hd, h'⟩ := ih j hj hw
      exact ⟨d, by omega, h'⟩
    · exact ⟨k, Nat.le_refl _, h, fun j hj hw => q ⟨j, hj, hw⟩⟩
theorem near_one {s : St} {x y k : Nat} : Near s y [x] k ↔ ∃ j, j ≤ k ∧ Wk s j x y := by
  unfold Near
  simp
theorem len_card : ∀ (l : List Nat), l.Nodup → (∀ z, z ∈ l → z < 24) → l.length ≤ card l
  | [], _, _ => Nat.zero_le _
  | z :: l, h, b => by
    obtain ⟨h1, h2⟩ := List.nodup_cons.mp h
    have ih := len_card l h2 fun y hy => b y (List.mem_cons_of_mem _ hy)
    have := card_lt (l := l) (l' := z :: l) (b z List.mem_cons_self) h1 List.mem_cons_self fun x hx => List.mem_cons_of_mem _ hx
    simp only [List.length_cons]
    omega
theorem nodup_len {l : List Nat} (h : l.Nodup) (b : ∀ z, z ∈ l → z < 24) : l.length ≤ 24 := by
  have h1 := len_card l h b
  have h2 : card l ≤ 24 := by
    have := List.countP_le_length (p := fun x => l.contains x) (l := List.range 24)
    simpa [card] using this
  omega
theorem Wf.openV {s : St} (w : Wf s) : Below s.nodes.length (openV s) := fun p hp => w.joints p (List.mem_append_right _ hp)
theorem Dist.pred {s : St} (w : Wf s) {x y d : Nat} (h : Dist s x y (d + 1)) : ∃ v, v < s.nodes.length ∧ Dist s v y d := by
  obtain ⟨u, v, h1, h2, h3⟩ := h.1
  exact ⟨v, (w.openV.adj h2).2, h3, fun k hk hw => h.2 (k + 1) (by omega) ⟨u, v, h1, h2, hw⟩⟩
theorem dist_list {s : St} (w : Wf s) {y : Nat} : ∀ (d x : Nat), x < s.nodes.length → Dist s x y d → ∃ l : List Nat, l.length = d + 1 ∧ l.Nodup ∧ ∀ z, z ∈ l → z < s.nodes.length ∧ ∃ i, i ≤ d ∧ Dist s z y i
  | 0, x, hx, h => ⟨[x], rfl, by simp, fun z hz => by simp at hz; subst hz; exact ⟨hx, 0, Nat.le_refl _, h⟩⟩
  | d + 1, x, hx, h => by
    obtain ⟨v, hv, hd⟩ := h.pred w
    obtain ⟨l, h1, h2, h3⟩ := dist_list w d v hv hd
    refine ⟨x :: l, by simp [h1], List.nodup_cons.mpr ⟨fun q => ?_, h2⟩, fun z hz => ?_⟩
    · obtain ⟨_, i, hi, hq⟩ := h3 x q
      have := h.uniq hq
      omega
    · rcases List.mem_cons.mp hz with rfl | hz
      · exact ⟨hx, d + 1, Nat.le_refl _, h⟩
      · obtain ⟨q1, i, hi, hq⟩ := h3 z hz
        exact ⟨q1, i, by omega, hq⟩
theorem dist_lt {s : St} (w : Wf s) {x y d : Nat} (hx : x < s.nodes.length) (h : Dist s x y d) : d < 24 := by
  obtain ⟨l, h1, h2, h3⟩ := dist_list w d x hx h
  have := nodup_len h2 fun z hz => Nat.lt_of_lt_of_le (h3 z hz).1 w.n24
  omega
theorem far_some {s : St} (w : Wf s) {x y d : Nat} (hx : x < s.nodes.length) : far s x y = some d ↔ Dist s x y d := by
  have h := distance_ok w y NODES 0 [x]
  unfold far
  constructor
  · intro e
    rw [e] at h
    obtain ⟨k, h1, h2, h3, h4⟩ := h
    have : d = k := by omega
    subst this
    obtain ⟨j, hj, hw⟩ := near_one.mp h3
    have hjd : j = d := by
      apply Classical.byContradiction
      intro q
      exact h4 j (by omega) (near_one.mpr ⟨j, Nat.le_refl _, hw⟩)
    subst hjd
    exact ⟨hw, fun k hk hw' => h4 k hk (near_one.mpr ⟨k, Nat.le_refl _, hw'⟩)⟩
  · intro hd
    have hlt := dist_lt w hx hd
    split at h
    · rename_i e he
      rw [he]
      obtain ⟨k, h1, h2, h3, h4⟩ := h
      obtain ⟨j, hj, hw⟩ := near_one.mp h3
      have a1 : ¬ j < d := fun q => hd.2 j q hw
      have a2 : ¬ d < k := fun q => h4 d q (near_one.mpr ⟨d, Nat.le_refl _, hd.1⟩)
      congr 1
      omega
    · exact absurd (near_one.mpr ⟨d, Nat.le_refl _, hd.1⟩) (h d (by unfold NODES; omega))
theorem far_none {s : St} (w : Wf s) {x y : Nat} (hx : x < s.nodes.length) : far s x y = none ↔ ∀ k, ¬ Wk s k x y := by
  constructor
  · intro e k hw
    obtain ⟨d, _, hd⟩ := dist_of k hw
    rw [(far_some w hx).mpr hd] at e
    cases e
  · intro h
    cases e : far s x y with
    | none => rfl
    | some d => exact absurd ((far_some w hx).mp e).1 (h d)
/-! ### doors -/
abbrev Door := Nat × Nat × Nat
def doorsOf (P : List Nat) : Nat → List Valve → List Door
  | _, [] => []
  | k, v :: r => if counts v = true then (k, P.getD v.a 0, P.getD v.b 0) :: doorsOf P (k + 1) r else doorsOf P (k + 1) r
def beyondD (d : Door) (here : Nat) : Option Nat := if d.2.1 = here then some d.2.2 else if d.2.2 = here then some d.2.1 else none
def DAdj (ds : List Door) (p q : Nat) : Prop := ∃ d, d ∈ ds ∧ beyondD d p = some q
theorem beyond_symm {d : Door} {p q : Nat} (h : beyondD d p = some q) : beyondD d q = some p := by
  unfold beyondD at h ⊢
  split at h
  · rename_i e
    cases h
    split
    · rename_i e'
      rw [← e', e]
    · rw [if_pos rfl, e]
  · split at h
    · rename_i e
      cases h
      rw [if_pos rfl, e]
    · cases h
theorem DAdj.symm {ds : List Door} {p q : Nat} (h : DAdj ds p q) : DAdj ds q p := by
  obtain ⟨d, hd, e⟩ := h
  exact ⟨d, hd, beyond_symm e⟩
def DW (ds : List Door) : Nat → Nat → Nat → Prop
  | 0, p, q => p = q
  | k + 1, p, q => ∃ r, DAdj ds p r ∧ DW ds k r q
theorem mem_doors {P : List Nat} : ∀ (r : List Valve) (k : Nat) {d : Door}, d ∈ doorsOf P k r → ∃ v, v ∈ r ∧ counts v = true ∧ d.2 = (P.getD v.a 0, P.getD v.b 0)
  | [], k, d, h => by cases h
  | v :: r, k, d, h => by
    unfold doorsOf at h
    split at h
    · rename_i c
      rcases List.mem_cons.mp h with e | h
      · subst e
        exact ⟨v, List.mem_cons_self, c, rfl⟩
      · obtain ⟨u, hu, h2⟩ := mem_doors r (k + 1) h
        exact ⟨u, List.mem_cons_of_mem _ hu, h2⟩
    · obtain ⟨u, hu, h2⟩ := mem_doors r (k + 1) h
      exact ⟨u, List.mem_cons_of_mem _ hu, h2⟩
theorem doors_mem {P : List Nat} : ∀ (r : List Valve) (k : Nat) {v : Valve}, v ∈ r → counts v = true → ∃ d, d ∈ doorsOf P k r ∧ d.2 = (P.getD v.a 0, P.getD v.b 0)
  | [], k, v, h, _ => by cases h
  | u :: r, k, v, h, c => by
    unfold doorsOf
    rcases List.mem_cons.mp h with e | h
    · subst e
      rw [if_pos c]
      exact ⟨_, List.mem_cons_self, rfl⟩
    · obtain ⟨d, hd, e⟩ := doors_mem (P := P) r (k + 1) h c
      split
      · exact ⟨d, List.mem_cons_of_mem _ hd, e⟩
      · exact ⟨d, hd, e⟩
/-- the place of a node: the least that pipes join to it -/
def plc (s : St) (x : Nat) : Nat := (leastJ s.nodes.length s.pipes).getD x 0
def drs (s : St) : List Door := doorsOf (leastJ s.nodes.length s.pipes) 0 s.valves
theorem plc_iff {s : St} (w : Wf s) {x y : Nat} (hx : x < s.nodes.length) (hy : y < s.nodes.length) : plc s x = plc s y ↔ Conn s.pipes x y := least_eq_iff w.pi hx hy
theorem wk_dw {s : St} (w : Wf s) {y : Nat} (hy : y < s.nodes.length) : ∀ (k x : Nat), x < s.nodes.length → (Wk s k x y ↔ DW (drs s) k (plc s x) (plc s y))
  | 0, x, hx => (plc_iff w hx hy).symm
  | k + 1, x, hx => by
    constructor
    · rintro ⟨u, v, c, a, h⟩
      have huv := w.openV.adj a
      refine ⟨plc s v, ?_, (wk_dw w hy k v huv.2).mp h⟩
      rw [(plc_iff w hx huv.1).mpr c]
      rcases a with a | a
      · obtain ⟨t, ht, e⟩ := List.mem_map.mp a
        cases e
        obtain ⟨ht1, ht2⟩ := List.mem_filter.mp ht
        obtain ⟨d, hd, e⟩ := doors_mem (P := leastJ s.nodes.length s.pipes) s.valves 0 ht1 ht2
        refine ⟨d, hd, ?_⟩
        unfold beyondD
        rw [e]
        exact if_pos rfl
      · obtain ⟨t, ht, e⟩ := List.mem_map.mp a
        cases e
        obtain ⟨ht1, ht2⟩ := List.mem_filter.mp ht
        obtain ⟨d, hd, e⟩ := doors_mem (P := leastJ s.nodes.length s.pipes) s.valves 0 ht1 ht2
        refine ⟨d, hd, beyond_symm ?_⟩
        unfold beyondD
        rw [e]
        exact if_pos rfl
    · rintro ⟨r, ⟨d, hd, e⟩, h⟩
      obtain ⟨v, hv, c, e2⟩ := mem_doors _ _ hd
      have wv := w.va v hv
      have hj : (v.a, v.b) ∈ openV s := List.mem_map.mpr ⟨v, List.mem_filter.mpr ⟨hv, c⟩, rfl⟩
      unfold beyondD at e
      rw [e2] at e
      split at e
      · rename_i q
        cases e
        exact ⟨v.a, v.b, (plc_iff w hx wv.a).mp q.symm, .inl hj, (wk_dw w hy k v.b wv.b).mpr h⟩
      · split at e
        · rename_i q
          cases e
          exact ⟨v.b, v.a, (plc_iff w hx wv.b).mp q.symm, .inr hj, (wk_dw w hy k v.a wv.a).mpr h⟩
        · cases e
end Pn

set_option linter.all false
namespace Pn
open Vbdlad
/-! ### the search from the goal -/
abbrev Left := List (Nat × Nat)
def lk : Left → Nat → Option Nat
  | [], _ => none
  | a :: r, p => if p = a.1 then some a.2 else lk r p
theorem lk_snoc_new {r d : Nat} : ∀ {left : Left}, lk left r = none → ∀ (p : Nat), lk (left ++ [(r, d)]) p = if p = r then some d else lk left p
  | [], _, p => rfl
  | a :: l, h, p => by
    have hr : ¬ r = a.1 := fun e => by
      unfold lk at h
      rw [if_pos e] at h
      cases h
    have h2 : lk l r = none := by
      unfold lk at h
      rw [if_neg hr] at h
      exact h
    have ih := lk_snoc_new (d := d) h2 p
    show (if p = a.1 then some a.2 else lk (l ++ [(r, d)]) p) = if p = r then some d else if p = a.1 then some a.2 else lk l p
    rw [ih]
    by_cases e : p = a.1
    · rw [if_pos e, if_neg (fun q => hr (by rw [← q, e])), if_pos e]
    · rw [if_neg e, if_neg e]
def dOf (left : Left) (p : Nat) : Nat := (lk left p).getD 0
def bfsDoor (here : Nat) (st : Left × List Nat) (d : Door) : Left × List Nat :=
  match beyondD d here with
  | none => st
  | some r => match lk st.1 r with
    | some _ => st
    | none => (st.1 ++ [(r, dOf st.1 here + 1)], st.2 ++ [r])
def bfsTurn (ds : List Door) (here : Nat) (st : Left × List Nat) : Left × List Nat := ds.foldl (bfsDoor here) st
structure BInv (ds : List Door) (goal : Nat) (left : Left) (todo : List Nat) : Prop where
  snd : ∀ p d, lk left p = some d → DW ds d p goal
  td : ∀ q, q ∈ todo → ∃ d, lk left q = some d
  srt : todo.Pairwise fun p q => dOf left p ≤ dOf left q
  top : ∀ h t, todo = h :: t → ∀ p d, lk left p = some d → d ≤ dOf left h + 1
  cl : ∀ p d, lk left p = some d → p ∉ todo → ∀ r, DAdj ds p r → ∃ e, lk left r = some e ∧ e ≤ d + 1
  gl : lk left goal = some 0
/-- while the doors of one place are gone through -/
structure TInv (ds : List Door) (goal here dh : Nat) (done : List Door) (left : Left) (todo : List Nat) : Prop where
  snd : ∀ p d, lk left p = some d → DW ds d p goal
  td : ∀ q, q ∈ todo → ∃ d, lk left q = some d
  srt : todo.Pairwise fun p q => dOf left p ≤ dOf left q
  lo : ∀ q, q ∈ todo → dh ≤ dOf left q
  hi : ∀ p d, lk left p = some d → d ≤ dh + 1
  hr : lk left here = some dh
  cl : ∀ p d, lk left p = some d → p ∉ todo → p ≠ here → ∀ r, DAdj ds p r → ∃ e, lk left r = some e ∧ e ≤ d + 1
  ch : ∀ d r, d ∈ done → beyondD d here = some r → ∃ e, lk left r = some e ∧ e ≤ dh + 1
  gl : lk left goal = some 0
theorem dOf_of {left : Left} {p d : Nat} (h : lk left p = some d) : dOf left p = d := by unfold dOf; rw [h]; rfl
theorem BInv.start (ds : List Door) (goal : Nat) : BInv ds goal [(goal, 0)] [goal] := by
  have g : ∀ p d, lk [(goal, 0)] p = some d → p = goal ∧ d = 0 := by
    intro p d h
    unfold lk at h
    split at h
    · rename_i e
      exact ⟨e, (Option.some.inj h).symm⟩
    · cases h
  refine ⟨fun p d h => ?_, fun q hq => ?_, by simp, fun h t e p d hp => ?_, fun p d hp hn => ?_, by simp [lk]⟩
  · obtain ⟨rfl, rfl⟩ := g p d h
    rfl
  · simp at hq
    subst hq
    exact ⟨0, by simp [lk]⟩
  · have := (g p d hp).2
    omega
  · obtain ⟨rfl, rfl⟩ := g p d hp
    simp at hn
theorem BInv.pop {ds : List Door} {goal : Nat} {left : Left} {here : Nat} {t : List Nat} (I : BInv ds goal left (here :: t)) : TInv ds goal here (dOf left here) [] left t := by
  obtain ⟨dh, hd⟩ := I.td here List.mem_cons_self
  obtain ⟨s1, s2⟩ := List.pairwise_cons.mp I.srt
  refine ⟨I.snd, fun q hq => I.td q (List.mem_cons_of_mem _ hq), s2, fun q hq => s1 q hq, fun p d hp => I.top here t rfl p d hp, by rw [dOf_of hd]; exact hd, fun p d hp hn hne => ?_, fun d r h => (by cases h), I.gl⟩
  exact I.cl p d hp fun q => by
    rcases List.mem_cons.mp q with e | q
    · exact hne e
    · exact hn q
theorem TInv.door {ds : List Door} {goal here dh : Nat} {done : List Door} {left : Left} {todo : List Nat} (I : TInv ds goal here dh done left todo) {d : Door} (hd : d ∈ ds) :
    TInv ds goal here dh (done ++ [d]) (bfsDoor here (left, todo) d).1 (bfsDoor here (left, todo) d).2 := by
  unfold bfsDoor
  cases hb : beyondD d here with
  | none =>
    simp only
    exact ⟨I.snd, I.td, I.srt, I.lo, I.hi, I.hr, I.cl, fun d' r h e => (by
      rcases List.mem_append.mp h with h | h
      · exact I.ch d' r h e
      · simp at h
        subst h
        rw [hb] at e
        cases e), I.gl⟩
  | some r =>
    simp only
    cases hl : lk left r with
    | some e0 =>
      simp only
      exact ⟨I.snd, I.td, I.srt, I.lo, I.hi, I.hr, I.cl, fun d' r' h e => (by
        rcases List.mem_append.mp h with h | h
        · exact I.ch d' r' h e
        · simp at h
          subst h
          rw [hb] at e
          cases e
          exact ⟨e0, hl, I.hi r e0 hl⟩), I.gl⟩
    | none =>
      simp only
      rw [dOf_of I.hr]
      have look : ∀ p, lk (left ++ [(r, dh + 1)]) p = if p = r then some (dh + 1) else lk left p := lk_snoc_new hl
      have keep : ∀ p e, lk left p = some e → lk (left ++ [(r, dh + 1)]) p = some e := by
        intro p e h
        rw [look p, if_neg (fun q => by rw [q, hl] at h; cases h)]
        exact h
      have keepD : ∀ p, p ∈ todo → dOf (left ++ [(r, dh + 1)]) p = dOf left p := by
        intro p hp
        obtain ⟨e, he⟩ := I.td p hp
        rw [dOf_of he, dOf_of (keep p e he)]
      have newD : dOf (left ++ [(r, dh + 1)]) r = dh + 1 := dOf_of (by rw [look r, if_pos rfl])
      have hadj : DAdj ds r here := ⟨d, hd, beyond_symm hb⟩
      have back : ∀ p e, lk (left ++ [(r, dh + 1)]) p = some e → (p = r ∧ e = dh + 1) ∨ lk left p = some e := by
        intro p e h
        rw [look p] at h
        split at h
        · rename_i q
          exact .inl ⟨q, (Option.some.inj h).symm⟩
        · exact .inr h
      refine ⟨fun p e h => ?_, fun q hq => ?_, ?_, fun q hq => ?_, fun p e h => ?_, keep _ _ I.hr, fun p e h hn hne r' hr' => ?_, fun d' r' h e => ?_, keep _ _ I.gl⟩
      · rcases back p e h with ⟨rfl, rfl⟩ | h
        · exact ⟨here, hadj, I.snd here dh I.hr⟩
        · exact I.snd p e h
      · rcases List.mem_append.mp hq with hq | hq
        · obtain ⟨e, he⟩ := I.td q hq
          exact ⟨e, keep q e he⟩
        · simp at hq
          subst hq
          exact ⟨dh + 1, by rw [look q, if_pos rfl]⟩
      · rw [List.pairwise_append]
        refine ⟨I.srt.imp_of_mem fun {p q} hp hq h => ?_, by simp, fun p hp q hq => ?_⟩
        · rw [keepD p hp, keepD q hq]
          exact h
        · simp at hq
          subst hq
          rw [keepD p hp, newD]
          obtain ⟨e, he⟩ := I.td p hp
          rw [dOf_of he]
          exact I.hi p e he
      · rcases List.mem_append.mp hq with hq | hq
        · rw [keepD q hq]
          exact I.lo q hq
        · simp at hq
          subst hq
          rw [newD]
          omega
      · rcases back p e h with ⟨rfl, rfl⟩ | h
        · exact Nat.le_refl _
        · exact I.hi p e h
      · rcases back p e h with ⟨rfl, rfl⟩ | h
        · exact absurd (List.mem_append_right _ (by simp)) hn
        · obtain ⟨e', h1, h2⟩ := I.cl p e h (fun q => hn (List.mem_append_left _ q)) hne r' hr'
          exact ⟨e', keep _ _ h1, h2⟩
      · rcases List.mem_append.mp h with h | h
        · obtain ⟨e', h1, h2⟩ := I.ch d' r' h e
          exact ⟨e', keep _ _ h1, h2⟩
        · simp at h
          subst h
          rw [hb] at e
          cases e
          exact ⟨dh + 1, by rw [look r, if_pos rfl], Nat.le_refl _⟩
theorem TInv.fold {ds : List Door} {goal here dh : Nat} : ∀ (rest done : List Door) (st : Left × List Nat), TInv ds goal here dh done st.1 st.2 → (∀ d, d ∈ rest → d ∈ ds) →
    TInv ds goal here dh (done ++ rest) (rest.foldl (bfsDoor here) st).1 (rest.foldl (bfsDoor here) st).2
  | [], done, st, I, _ => by simpa using I
  | d :: rest, done, st, I, h => by
    have := TInv.fold rest (done ++ [d]) (bfsDoor here st d) (I.door (h d List.mem_cons_self)) fun d' hd' => h d' (List.mem_cons_of_mem _ hd')
    simpa using this
theorem TInv.done {ds : List Door} {goal here dh : Nat} {left : Left} {todo : List Nat} (I : TInv ds goal here dh ds left todo) : BInv ds goal left todo := by
  refine ⟨I.snd, I.td, I.srt, fun h t e p d hp => ?_, fun p d hp hn r hr => ?_, I.gl⟩
  · have h1 := I.hi p d hp
    have h2 := I.lo h (by rw [e]; exact List.mem_cons_self)
    omega
  · by_cases q : p = here
    · subst q
      have e := Option.some.inj (hp.symm.trans I.hr)
      subst e
      obtain ⟨d', hd', hb⟩ := hr
      exact I.ch d' r hd' hb
    · exact I.cl p d hp hn q r hr
theorem BInv.turn {ds : List Door} {goal : Nat} {left : Left} {here : Nat} {t : List Nat} (I : BInv ds goal left (here :: t)) : BInv ds goal (bfsTurn ds here (left, t)).1 (bfsTurn ds here (left, t)).2 := by
  have := TInv.fold ds [] (left, t) I.pop fun d hd => hd
  exact TInv.done this
/-- the keys: no two alike, below 24 -/
def KeysOk (left : Left) : Prop := (left.map (·.1)).Nodup ∧ ∀ p, p ∈ left.map (·.1) → p < 24
theorem lk_none_iff {p : Nat} : ∀ {left : Left}, lk left p = none ↔ p ∉ left.map (·.1)
  | [] => by simp [lk]
  | a :: l => by
    have ih := lk_none_iff (p := p) (left := l)
    unfold lk
    rw [List.map_cons, List.mem_cons, not_or]
    by_cases e : p = a.1
    · rw [if_pos e]
      exact ⟨fun q => (by cases q), fun q => absurd e q.1⟩
    · rw [if_neg e, ih]
      exact ⟨fun q => ⟨e, q⟩, fun q => q.2⟩
theorem bfsDoor_keys {here : Nat} {st : Left × List Nat} {d : Door} (h : KeysOk st.1) (hd : d.2.1 < 24 ∧ d.2.2 < 24) : KeysOk (bfsDoor here st d).1 ∧ (bfsDoor here st d).1.length + st.2.length = st.1.length + (bfsDoor here st d).2.length ∧ st.1.length ≤ (bfsDoor here st d).1.length := by
  unfold bfsDoor
  cases hb : beyondD d here with
  | none => exact ⟨h, rfl, Nat.le_refl _⟩
  | some r =>
    simp only
    cases hl : lk st.1 r with
    | some e => exact ⟨h, rfl, Nat.le_refl _⟩
    | none =>
      simp only
      have hr : r < 24 := by
        unfold beyondD at hb
        split at hb
        · cases hb; exact hd.2
        · split at hb
          · cases hb; exact hd.1
          · cases hb
      refine ⟨⟨?_, fun p hp => ?_⟩, by simp; omega, by simp⟩
      · rw [List.map_append, List.nodup_append]
        refine ⟨h.1, by simp, fun a ha b hb' => ?_⟩
        simp at hb'
        subst hb'
        exact fun q => lk_none_iff.mp hl (by rw [← q]; exact ha)
      · rw [List.map_append] at hp
        rcases List.mem_append.mp hp with hp | hp
        · exact h.2 p hp
        · simp at hp
          subst hp
          exact hr
theorem bfsFold_keys {here : Nat} : ∀ (ds : List Door) (st : Left × List Nat), KeysOk st.1 → (∀ d, d ∈ ds → d.2.1 < 24 ∧ d.2.2 < 24) → KeysOk (ds.foldl (bfsDoor here) st).1 ∧ (ds.foldl (bfsDoor here) st).1.length + st.2.length = st.1.length + (ds.foldl (bfsDoor here) st).2.length ∧ st.1.length ≤ (ds.foldl (bfsDoor here) st).1.length
  | [], st, h, _ => ⟨h, rfl, Nat.le_refl _⟩
  | d :: ds, st, h, hb => by
    obtain ⟨h1, h2, h3⟩ := bfsDoor_keys (here := here) h (hb d List.mem_cons_self)
    obtain ⟨k1, k2, k3⟩ := bfsFold_keys (here := here) ds (bfsDoor here st d) h1 fun d' hd' => hb d' (List.mem_cons_of_mem _ hd')
    exact ⟨k1, by simp only [List.foldl_cons]; omega, by simp only [List.foldl_cons]; omega⟩
theorem KeysOk.len {left : Left} (h : KeysOk left) : left.length ≤ 24 := by
  have := nodup_len h.1 h.2
  simpa using this
/-- the search is over: the least number of doors from each place -/
structure BDone (ds : List Door) (goal : Nat) (left : Left) : Prop where
  sound : ∀ p d, lk left p = some d → DW ds d p goal
  all : ∀ k p, DW ds k p goal → ∃ e, lk left p = some e ∧ e ≤ k
theorem BInv.fin {ds : List Door} {goal : Nat} {left : Left} (I : BInv ds goal left []) : BDone ds goal left := by
  refine ⟨I.snd, fun k => ?_⟩
  induction k with
  | zero =>
    intro p h
    have : p = goal := h
    subst this
    exact ⟨0, I.gl, Nat.le_refl _⟩
  | succ k ih =>
    rintro p ⟨r, ha, hw⟩
    obtain ⟨e, h1, h2⟩ := ih r hw
    obtain ⟨e', h3, h4⟩ := I.cl r e h1 (by simp) p ha.symm
    exact ⟨e', h3, by omega⟩
theorem BDone.min {ds : List Door} {goal : Nat} {left : Left} (B : BDone ds goal left) {p d k : Nat} (h : lk left p = some d) (hk : DW ds k p goal) : d ≤ k := by
  obtain ⟨e, h1, h2⟩ := B.all k p hk
  have := Option.some.inj (h.symm.trans h1)
  omega
theorem BDone.zero {ds : List Door} {goal : Nat} {left : Left} (B : BDone ds goal left) {p d : Nat} (h : lk left p = some d) : p = goal ↔ d = 0 := by
  constructor
  · intro e
    have := B.min h (k := 0) e
    omega
  · intro e
    subst e
    exact B.sound p 0 h
theorem BDone.nbr {ds : List Door} {goal : Nat} {left : Left} (B : BDone ds goal left) {p q d : Nat} (h : lk left p = some d) (a : DAdj ds p q) : ∃ e, lk left q = some e ∧ e ≤ d + 1 :=
  B.all (d + 1) q ⟨p, a.symm, B.sound p d h⟩
/-- a door that leads nearer -/
def nearD (left : Left) (here : Nat) (d : Door) : Bool := match beyondD d here with
  | none => false
  | some r => decide (dOf left r < dOf left here)
/-! ### the way -/
section
variable {s : St}
theorem lk_dist (w : Wf s) {y : Nat} (hy : y < s.nodes.length) {left : Left} (B : BDone (drs s) (plc s y) left) {x d : Nat} (hx : x < s.nodes.length) : lk left (plc s x) = some d ↔ Dist s x y d := by
  constructor
  · intro h
    exact ⟨(wk_dw w hy d x hx).mpr (B.sound _ _ h), fun k hk hw => by
      have := B.min h ((wk_dw w hy k x hx).mp hw)
      omega⟩
  · intro h
    obtain ⟨e, h1, h2⟩ := B.all d _ ((wk_dw w hy d x hx).mp h.1)
    have : e = d := by
      apply Classical.byContradiction
      intro q
      exact h.2 e (by omega) ((wk_dw w hy e x hx).mpr (B.sound _ _ h1))
    rw [← this]
    exact h1
theorem lk_far (w : Wf s) {y : Nat} (hy : y < s.nodes.length) {left : Left} (B : BDone (drs s) (plc s y) left) {x : Nat} (hx : x < s.nodes.length) : far s x y = lk left (plc s x) := by
  cases e : lk left (plc s x) with
  | some d => exact (far_some w hx).mpr ((lk_dist w hy B hx).mp e)
  | none =>
    refine (far_none w hx).mpr fun k hw => ?_
    obtain ⟨d, h1, _⟩ := B.all k _ ((wk_dw w hy k x hx).mp hw)
    rw [h1] at e
    cases e
def next1 (L : List Nat) (v : Valve) : List Nat := (if L.contains v.a then [v.b] else []) ++ (if L.contains v.b then [v.a] else [])
def pick (s : St) (y d : Nat) (L : List Nat) (i : Nat) (v : Valve) : Option (Nat × List Nat) :=
  if counts v = false then none
  else match (next1 L v).filter fun z => far s z y == some (d - 1) with
    | [] => none
    | z :: r => some (i, z :: r)
def picks (s : St) (y d : Nat) (L : List Nat) : Nat → List Valve → Option (Nat × List Nat)
  | _, [] => none
  | k, v :: r => match pick s y d L k v with
    | some x => some x
    | none => picks s y d L (k + 1) r
theorem picks_range (y d : Nat) (L : List Nat) (vs : List Valve) : ∀ (r : List Valve) (k : Nat), (∀ j, r[j]? = vs[k + j]?) → ((List.range' k r.length).findSome? fun i => match vs[i]? with
    | none => none
    | some v => pick s y d L i v) = picks s y d L k r
  | [], k, h => by simp [picks]
  | v :: r, k, h => by
    have h0 : vs[k]? = some v := by simpa using (h 0).symm
    have ih := picks_range y d L vs r (k + 1) fun j => by
      have := h (j + 1)
      rw [List.getElem?_cons_succ] at this
      rw [this]
      congr 1
      omega
    rw [List.length_cons, List.range'_succ, List.findSome?_cons, h0]
    simp only [picks]
    cases pick s y d L k v with
    | some x => rfl
    | none => exact ih
theorem wayFrom_succ (y n d : Nat) (l : List Nat) : wayFrom s y (n + 1) d l = match picks s y d (byPipes s l) 0 s.valves with
    | none => []
    | some (i, zs) => i :: wayFrom s y n (d - 1) zs := by
  have e := picks_range (s := s) y d (byPipes s l) s.valves s.valves 0 fun j => by simp
  rw [← List.range_eq_range'] at e
  rw [← e]
  rfl
/-- l stands for the place here -/
def Stands (s : St) (here : Nat) (l : List Nat) : Prop := l ≠ [] ∧ ∀ z, z ∈ l → z < s.nodes.length ∧ plc s z = here
theorem stands_by (w : Wf s) {here : Nat} {l : List Nat} (h : Stands s here l) {z : Nat} (hz : z < s.nodes.length) : (byPipes s l).contains z = true ↔ plc s z = here := by
  rw [List.contains_iff_mem, mem_byPipes w]
  constructor
  · rintro ⟨x, hx, c⟩
    obtain ⟨h1, h2⟩ := h.2 x hx
    rw [← h2]
    exact ((plc_iff w h1 hz).mpr c).symm
  · intro e
    obtain ⟨x, hx⟩ := List.exists_mem_of_ne_nil _ h.1
    obtain ⟨h1, h2⟩ := h.2 x hx
    exact ⟨x, hx, (plc_iff w h1 hz).mp (h2.trans e.symm)⟩
theorem pick_ok (w : Wf s) {y : Nat} (hy : y < s.nodes.length) {left : Left} (B : BDone (drs s) (plc s y) left) {here d : Nat} {l : List Nat} (hl : Stands s here l) (hh : lk left here = some (d + 1)) {i : Nat} {v : Valve} (hv : v ∈ s.valves) (c : counts v = true) :
    (nearD left here (i, plc s v.a, plc s v.b) = true ∧ ∃ zs r, pick s y (d + 1) (byPipes s l) i v = some (i, zs) ∧ beyondD (i, plc s v.a, plc s v.b) here = some r ∧ Stands s r zs ∧ lk left r = some d) ∨
    (nearD left here (i, plc s v.a, plc s v.b) = false ∧ pick s y (d + 1) (byPipes s l) i v = none) := by
  have wv := w.va v hv
  obtain ⟨dr, hdr, edr⟩ := doors_mem (P := leastJ s.nodes.length s.pipes) s.valves 0 hv c
  have adj : DAdj (drs s) (plc s v.a) (plc s v.b) := ⟨dr, hdr, by unfold beyondD; rw [edr]; exact if_pos rfl⟩
  have ca := stands_by w hl wv.a
  have cb := stands_by w hl wv.b
  have fa := lk_far w hy B wv.a
  have fb := lk_far w hy B wv.b
  have hdo : dOf left here = d + 1 := dOf_of hh
  have hp : pick s y (d + 1) (byPipes s l) i v = match (next1 (byPipes s l) v).filter fun z => far s z y == some d with
    | [] => none
    | z :: r => some (i, z :: r) := by
    unfold pick
    rw [if_neg (show ¬ counts v = false by rw [c]; intro q; cases q)]
    rfl
  rw [hp]
  by_cases qa : plc s v.a = here
  · have hb : beyondD (i, plc s v.a, plc s v.b) here = some (plc s v.b) := if_pos qa
    obtain ⟨e, he, hle⟩ := B.nbr hh (qa ▸ adj)
    have hn : nearD left here (i, plc s v.a, plc s v.b) = decide (e < d + 1) := by
      unfold nearD
      rw [hb]
      show decide (dOf left (plc s v.b) < dOf left here) = _
      rw [hdo, dOf_of he]
    by_cases qb : plc s v.b = here
    · have ee : e = d + 1 := by
        rw [qb] at he
        exact Option.some.inj (he.symm.trans hh)
      refine .inr ⟨by rw [hn]; simp; omega, ?_⟩
      unfold next1
      rw [if_pos (ca.mpr qa), if_pos (cb.mpr qb)]
      rw [List.filter_eq_nil_iff.mpr]
      intro z hz
      simp at hz
      rcases hz with rfl | rfl
      · rw [fb, he, ee]
        simp
      · rw [fa, qa, hh]
        simp
    · have e1 : next1 (byPipes s l) v = [v.b] := by
        unfold next1
        rw [if_pos (ca.mpr qa), if_neg (fun q => qb (cb.mp q))]
        rfl
      rw [e1]
      by_cases q : e < d + 1
      · have h5 : e = d := by
          have := B.nbr he (qa ▸ adj.symm)
          obtain ⟨e2, h6, h7⟩ := this
          have := Option.some.inj (h6.symm.trans hh)
          omega
        subst h5
        refine .inl ⟨by rw [hn]; simp, [v.b], plc s v.b, ?_, hb, ⟨by simp, fun z hz => by simp at hz; subst hz; exact ⟨wv.b, rfl⟩⟩, he⟩
        simp [List.filter_cons, fb, he]
      · refine .inr ⟨by rw [hn]; simpa using q, ?_⟩
        have : ¬ e = d := by omega
        simp [List.filter_cons, fb, he, this]
  · by_cases qb : plc s v.b = here
    · have hb : beyondD (i, plc s v.a, plc s v.b) here = some (plc s v.a) := by
        unfold beyondD
        rw [if_neg qa, if_pos qb]
      obtain ⟨e, he, hle⟩ := B.nbr hh (qb ▸ adj.symm)
      have hn : nearD left here (i, plc s v.a, plc s v.b) = decide (e < d + 1) := by
        unfold nearD
        rw [hb]
        show decide (dOf left (plc s v.a) < dOf left here) = _
        rw [hdo, dOf_of he]
      have e1 : next1 (byPipes s l) v = [v.a] := by
        unfold next1
        rw [if_pos (cb.mpr qb), if_neg (fun q => qa (ca.mp q))]
        rfl
      rw [e1]
      by_cases q : e < d + 1
      · have h5 : e = d := by
          have := B.nbr he (qb ▸ adj)
          obtain ⟨e2, h6, h7⟩ := this
          have := Option.some.inj (h6.symm.trans hh)
          omega
        subst h5
        refine .inl ⟨by rw [hn]; simp, [v.a], plc s v.a, ?_, hb, ⟨by simp, fun z hz => by simp at hz; subst hz; exact ⟨wv.a, rfl⟩⟩, he⟩
        simp [List.filter_cons, fa, he]
      · refine .inr ⟨by rw [hn]; simpa using q, ?_⟩
        have : ¬ e = d := by omega
        simp [List.filter_cons, fa, he, this]
    · refine .inr ⟨?_, ?_⟩
      · unfold nearD beyondD
        rw [if_neg qa, if_neg qb]
      · unfold next1
        rw [if_neg (fun q => qa (ca.mp q)), if_neg (fun q => qb (cb.mp q))]
        rfl
theorem picks_ok (w : Wf s) {y : Nat} (hy : y < s.nodes.length) {left : Left} (B : BDone (drs s) (plc s y) left) {here d : Nat} {l : List Nat} (hl : Stands s here l) (hh : lk left here = some (d + 1)) : ∀ (r : List Valve) (k : Nat), (∀ v, v ∈ r → v ∈ s.valves) →
    match (doorsOf (leastJ s.nodes.length s.pipes) k r).find? (nearD left here) with
    | none => picks s y (d + 1) (byPipes s l) k r = none
    | some dr => ∃ zs q, picks s y (d + 1) (byPipes s l) k r = some (dr.1, zs) ∧ beyondD dr here = some q ∧ Stands s q zs ∧ lk left q = some d
  | [], k, h => by simp [doorsOf, picks]
  | v :: r, k, h => by
    have ih := picks_ok w hy B hl hh r (k + 1) fun u hu => h u (List.mem_cons_of_mem _ hu)
    unfold doorsOf picks
    cases c : counts v with
    | false =>
      have : pick s y (d + 1) (byPipes s l) k v = none := by unfold pick; rw [if_pos c]
      simp only [this]
      exact ih
    | true =>
      have hp := pick_ok w hy B hl hh (i := k) (h v List.mem_cons_self) c
      rw [if_pos rfl, List.find?_cons]
      rcases hp with ⟨q, zs, r', e1, e2, e3, e4⟩ | ⟨q, e1⟩
      · have q' : nearD left here (k, (leastJ s.nodes.length s.pipes).getD v.a 0, (leastJ s.nodes.length s.pipes).getD v.b 0) = true := q
        rw [q']
        simp only [e1]
        exact ⟨zs, r', rfl, e2, e3, e4⟩
      · have q' : nearD left here (k, (leastJ s.nodes.length s.pipes).getD v.a 0, (leastJ s.nodes.length s.pipes).getD v.b 0) = false := q
        rw [q']
        simp only [e1]
        exact ih
/-- there is a nearer door where the goal is not reached yet -/
theorem near_there {ds : List Door} {goal : Nat} {left : Left} (B : BDone ds goal left) {here d : Nat} (hh : lk left here = some (d + 1)) : ∃ dr, ds.find? (nearD left here) = some dr := by
  obtain ⟨r, ⟨dr, hd, hb⟩, hw⟩ := B.sound here (d + 1) hh
  obtain ⟨e, h1, h2⟩ := B.all d r hw
  have hn : nearD left here dr = true := by
    unfold nearD
    rw [hb]
    simp only [decide_eq_true_eq]
    rw [dOf_of h1, dOf_of hh]
    omega
  cases q : ds.find? (nearD left here) with
  | some x => exact ⟨x, rfl⟩
  | none =>
    have := List.find?_eq_none.mp q dr hd
    exact absurd hn this
/-- one step of the way -/
theorem way_step (w : Wf s) {y : Nat} (hy : y < s.nodes.length) {left : Left} (B : BDone (drs s) (plc s y) left) {here d : Nat} {l : List Nat} (hl : Stands s here l) (hh : lk left here = some (d + 1)) :
    ∃ dr zs q, (drs s).find? (nearD left here) = some dr ∧ wayFrom s y (d + 1) (d + 1) l = dr.1 :: wayFrom s y d d zs ∧ beyondD dr here = some q ∧ Stands s q zs ∧ lk left q = some d := by
  obtain ⟨dr, hdr⟩ := near_there B hh
  have h := picks_ok w hy B hl hh s.valves 0 fun v hv => hv
  change match (drs s).find? (nearD left here) with
    | none => _
    | some dr => _ at h
  rw [hdr] at h
  obtain ⟨zs, q, e1, e2, e3, e4⟩ := h
  refine ⟨dr, zs, q, hdr, ?_, e2, e3, e4⟩
  rw [wayFrom_succ, e1]
  simp only [Nat.add_sub_cancel]
theorem way_some (w : Wf s) {x y : Nat} (hx : x < s.nodes.length) (hy : y < s.nodes.length) {left : Left} (B : BDone (drs s) (plc s y) left) : way s x y = (lk left (plc s x)).map fun d => wayFrom s y d d [x] := by
  unfold way
  rw [lk_far w hy B hx]
end
end Pn

set_option linter.all false
namespace Pn
open Vbdlad
theorem WfV.mono {n m : Nat} {v : Valve} (w : WfV n v) (h : n ≤ m) : WfV m v := ⟨Nat.lt_of_lt_of_le w.a h, Nat.lt_of_lt_of_le w.b h, w.tr, w.pl⟩
theorem WfP.mono {n m : Nat} {p : Pump} (w : WfP n p) (h : n ≤ m) : WfP m p := ⟨Nat.lt_of_lt_of_le w.a h, Nat.lt_of_lt_of_le w.b h, w.den, w.stroke, w.per, w.tg, w.sp, w.ac, w.ft⟩
theorem wf_start : Wf start := ⟨by decide, fun f h => (by cases h), fun f h => (by cases h), by decide, fun f h => (by cases h), by decide, fun f h => (by cases h), by decide, by simp [start], fun f h => (by cases h), by decide⟩
theorem Wf.withValves {s : St} (w : Wf s) {vs : List Valve} (h : ∀ v, v ∈ vs → WfV s.nodes.length v) (hl : vs.length ≤ 48) : Wf { s with valves := vs } := ⟨w.n24, w.fl, w.pi, w.piL, h, hl, w.fo, w.foL, w.foN, w.pu, w.puL⟩
theorem Wf.withPumps {s : St} (w : Wf s) {ps : List Pump} (h : ∀ p, p ∈ ps → WfP s.nodes.length p) (hl : ps.length ≤ 8) : Wf { s with pumps := ps } := ⟨w.n24, w.fl, w.pi, w.piL, w.va, w.vaL, w.fo, w.foL, w.foN, h, hl⟩
theorem Wf.withTick {s : St} (w : Wf s) (t : Nat) : Wf { s with tick := t } := ⟨w.n24, w.fl, w.pi, w.piL, w.va, w.vaL, w.fo, w.foL, w.foN, w.pu, w.puL⟩
theorem nearer_in {p : Pump} {n : Nat} (w : WfP n p) : -(p.den : Int) ≤ nearer p ∧ nearer p ≤ (p.den : Int) := by
  have h1 := w.tg
  have h2 := w.sp
  unfold nearer
  split <;> omega
/-- one tick at a speed -/
def goAt (v : Int) (p : Pump) : Pump :=
  if (p.den : Int) ≤ p.acc + v then { p with speed := v, acc := p.acc + v - (p.den : Int), pos := p.pos + 1, moved := p.moved + 1 }
  else if p.acc + v ≤ -(p.den : Int) then { p with speed := v, acc := p.acc + v + (p.den : Int), pos := p.pos - 1, moved := p.moved + 1 }
  else { p with speed := v, acc := p.acc + v }
theorem gather_goAt (p : Pump) : gather p = goAt (nearer p) p := rfl
theorem gather_wf {p : Pump} {n : Nat} (w : WfP n p) (hf : p.fault = 0) : WfP n (gather p) := by
  have h := nearer_in w
  have h1 := w.ac
  rw [gather_goAt]
  unfold goAt
  split
  · exact ⟨w.a, w.b, w.den, w.stroke, w.per, w.tg, h, by constructor <;> simp only <;> omega, fun q => absurd hf q⟩
  · split
    · exact ⟨w.a, w.b, w.den, w.stroke, w.per, w.tg, h, by constructor <;> simp only <;> omega, fun q => absurd hf q⟩
    · exact ⟨w.a, w.b, w.den, w.stroke, w.per, w.tg, h, by constructor <;> simp only <;> omega, fun q => absurd hf q⟩
theorem halted_wf {p : Pump} {n : Nat} (w : WfP n p) (f : Nat) : WfP n (halted p f) := ⟨w.a, w.b, w.den, w.stroke, w.per, by unfold halted; simp only; omega, by unfold halted; simp only; omega, w.ac, fun _ => ⟨rfl, rfl⟩⟩
theorem pumpTick_wf {s : St} {js : Js} {p : Pump} {n : Nat} (w : WfP n p) : WfP n (pumpTick s js p) := by
  unfold pumpTick
  split
  · exact w
  · rename_i h
    have hf : p.fault = 0 := Classical.byContradiction h
    split
    · exact gather_wf w hf
    · split
      · exact gather_wf w hf
      · exact halted_wf w 1
theorem moveValve_wf {v : Valve} {n : Nat} (w : WfV n v) : WfV n (moveValve v) := by
  unfold moveValve
  split
  · exact ⟨w.a, w.b, w.tr, Nat.min_le_right _ _⟩
  · exact ⟨w.a, w.b, w.tr, Nat.le_trans (Nat.sub_le _ _) w.pl⟩
theorem oneTick_wf {s : St} (w : Wf s) : Wf (oneTick s) := by
  have w1 : Wf { s with tick := s.tick + 1, valves := s.valves.map moveValve } := (w.withTick (s.tick + 1)).withValves (fun v hv => by
    obtain ⟨u, hu, rfl⟩ := List.mem_map.mp hv
    exact moveValve_wf (w.va u hu)) (by simpa using w.vaL)
  exact w1.withPumps (fun p hp => by
    obtain ⟨u, hu, rfl⟩ := List.mem_map.mp hp
    exact pumpTick_wf (w.pu u hu)) (by simpa using w.puL)
theorem ticks_wf : ∀ (n : Nat) {s : St}, Wf s → Wf (ticks n s)
  | 0, _, w => w
  | n + 1, _, w => ticks_wf n (oneTick_wf w)
theorem ticks_succ : ∀ (n : Nat) (s : St), ticks (n + 1) s = oneTick (ticks n s)
  | 0, s => rfl
  | n + 1, s => ticks_succ n (oneTick s)
theorem oneTick_nodes (s : St) : (oneTick s).nodes = s.nodes := rfl
/-! ### the joints behind a tick -/
theorem joints_same {s : St} {vs : List Valve} (h : vs.length = s.valves.length) (hp : ∀ (i : Nat) (u v : Valve), s.valves[i]? = some u → vs[i]? = some v → v.a = u.a ∧ v.b = u.b ∧ counts v = counts u) : joints { s with valves := vs } = joints s := by
  unfold joints
  simp only
  congr 1
  have gen : ∀ (us ws : List Valve), ws.length = us.length → (∀ (i : Nat) (u v : Valve), us[i]? = some u → ws[i]? = some v → v.a = u.a ∧ v.b = u.b ∧ counts v = counts u) → (ws.filter counts).map (fun v => (v.a, v.b)) = (us.filter counts).map (fun v => (v.a, v.b)) := by
    intro us
    induction us with
    | nil =>
      intro ws hl _
      have : ws = [] := List.length_eq_zero_iff.mp hl
      subst this
      rfl
    | cons u us ih =>
      intro ws hl hp
      cases ws with
      | nil => simp at hl
      | cons v ws =>
        have h0 := hp 0 u v rfl rfl
        have ih := ih ws (by simpa using hl) fun i u' v' h1 h2 => hp (i + 1) u' v' (by simpa using h1) (by simpa using h2)
        rw [List.filter_cons, List.filter_cons, h0.2.2]
        split
        · rw [List.map_cons, List.map_cons, ih, h0.1, h0.2.1]
        · exact ih
  exact gen _ _ h hp
theorem moveValve_ends (v : Valve) : (moveValve v).a = v.a ∧ (moveValve v).b = v.b := by
  unfold moveValve
  split <;> exact ⟨rfl, rfl⟩
/-! ### flow -/
def pumpTickF (fed drained : List Bool) (p : Pump) : Pump :=
  if p.fault ≠ 0 then p
  else if nearer p = 0 then gather p
  else if (if 0 < nearer p then fed.getD p.a false && drained.getD p.b false else fed.getD p.b false && drained.getD p.a false) = true then gather p
  else halted p 1
def fedOf (s : St) : List Bool := reachedL (leastJ s.nodes.length (joints s)) s.nodes 1
def drainedOf (s : St) : List Bool := reachedL (leastJ s.nodes.length (joints s)) s.nodes 2
theorem pumpTick_eq {s : St} (w : Wf s) {p : Pump} (wp : WfP s.nodes.length p) : pumpTick s (joints s) p = pumpTickF (fedOf s) (drainedOf s) p := by
  unfold pumpTick pumpTickF open_ fedOf drainedOf
  rw [meets_eq w w.joints wp.a (.inl rfl), meets_eq w w.joints wp.b (.inl rfl), meets_eq w w.joints wp.a (.inr rfl), meets_eq w w.joints wp.b (.inr rfl)]
theorem reachedL_len (least flags : List Nat) (k : Nat) : (reachedL least flags k).length = least.length := by simp [reachedL]
/-! ### faults -/
theorem filter_map_le {α : Type} {f : α → α} {q : α → Bool} (h : ∀ x, q x = true → q (f x) = true) : ∀ l : List α, (l.filter q).length ≤ ((l.map f).filter q).length
  | [] => Nat.le_refl _
  | a :: l => by
    have ih := filter_map_le h l
    rw [List.map_cons, List.filter_cons, List.filter_cons]
    by_cases e : q a = true
    · rw [if_pos e, if_pos (h a e)]
      simpa using ih
    · rw [if_neg e]
      split
      · simp only [List.length_cons]; omega
      · exact ih
theorem faults_tick (s : St) : faults s ≤ faults (oneTick s) := by
  unfold faults oneTick
  simp only
  refine filter_map_le (q := fun p : Pump => p.fault != 0) (fun p h => ?_) s.pumps
  unfold pumpTick
  rw [if_pos (by simpa using h)]
  exact h
theorem faults_ticks : ∀ (n : Nat) (s : St), faults s ≤ faults (ticks n s)
  | 0, s => Nat.le_refl _
  | n + 1, s => Nat.le_trans (faults_tick s) (faults_ticks n (oneTick s))
/-! ### ahead -/
theorem alone_succ : ∀ (n : Nat) (p : Pump), alone (n + 1) p = gather (alone n p)
  | 0, p => rfl
  | n + 1, p => alone_succ n (gather p)
/-- the same but for what no speed hangs on -/
structure Alike (z : Int) (p q : Pump) : Prop where
  den : q.den = p.den
  slope : q.slope = p.slope
  tg : q.target = p.target
  sp : q.speed = p.speed
  ac : q.acc = p.acc
  ps : q.pos = p.pos + z
theorem Alike.gather {z : Int} {p q : Pump} (h : Alike z p q) : Alike z (gather p) (gather q) := by
  have e : nearer q = nearer p := by unfold nearer; rw [h.tg, h.sp, h.slope]
  rw [gather_goAt, gather_goAt, e]
  unfold goAt
  rw [h.den, h.ac]
  split
  · exact ⟨rfl, h.slope, h.tg, rfl, rfl, by simp only [h.ps]; omega⟩
  · split
    · exact ⟨rfl, h.slope, h.tg, rfl, rfl, by simp only [h.ps]; omega⟩
    · exact ⟨rfl, h.slope, h.tg, rfl, rfl, by simp only [h.ps]⟩
theorem Alike.alone {z : Int} : ∀ (n : Nat) {p q : Pump}, Alike z p q → Alike z (alone n p) (alone n q)
  | 0, _, _, h => h
  | n + 1, _, _, h => Alike.alone n h.gather
theorem alone_still {p : Pump} {n : Nat} (w : WfP n p) (hf : p.fault ≠ 0) : ∀ k, alone k p = p
  | 0 => rfl
  | k + 1 => by
    obtain ⟨h1, h2⟩ := w.ft hf
    have hn : nearer p = 0 := by unfold nearer; rw [h1, h2]; simp; omega
    have hg : gather p = p := by
      rw [gather_goAt, hn]
      unfold goAt
      have := w.ac
      rw [if_neg (by omega), if_neg (by omega)]
      cases p
      simp at h2 ⊢
      exact h2.symm
    show alone k (gather p) = p
    rw [hg]
    exact alone_still w hf k
/-! ### pulses, the ledger -/
theorem pulses_wf {p : Pump} {n : Nat} (w : WfP n p) (k : Nat) : WfP n (pulses p k).2 := by
  unfold pulses
  simp only
  have wq : ∀ b, WfP n { p with moved := p.moved % p.per, bad := b } := fun b => ⟨w.a, w.b, w.den, w.stroke, w.per, w.tg, w.sp, w.ac, w.ft⟩
  have wq0 : WfP n { p with moved := p.moved % p.per } := ⟨w.a, w.b, w.den, w.stroke, w.per, w.tg, w.sp, w.ac, w.ft⟩
  by_cases h1 : p.fault ≠ 0
  · rw [if_pos h1]
    exact wq0
  · rw [if_neg h1]
    by_cases h2 : p.tol < (if p.moved / p.per ≤ k then k - p.moved / p.per else p.moved / p.per - k)
    · rw [if_pos h2]
      by_cases h3 : 1 ≤ p.bad
      · rw [if_pos h3]
        have := halted_wf wq0 2
        exact ⟨this.a, this.b, this.den, this.stroke, this.per, this.tg, this.sp, this.ac, this.ft⟩
      · rw [if_neg h3]
        exact wq _
    · rw [if_neg h2]
      exact wq _
def ledStep (sums : List Int) (p : Pump) : List Int :=
  (sums.set p.a (sums.getD p.a 0 - p.pos * (p.stroke : Int))).set p.b ((sums.set p.a (sums.getD p.a 0 - p.pos * (p.stroke : Int))).getD p.b 0 + p.pos * (p.stroke : Int))
theorem getD_set {l : List Int} {i j : Nat} {v : Int} (h : i < l.length) : (l.set i v).getD j 0 = if j = i then v else l.getD j 0 := by
  rw [List.getD_eq_getElem?_getD, List.getD_eq_getElem?_getD]
  by_cases e : j = i
  · subst e
    rw [if_pos rfl, List.getElem?_set_self h]
    rfl
  · rw [if_neg e, List.getElem?_set_ne (fun q => e q.symm)]
theorem ledStep_len (sums : List Int) (p : Pump) : (ledStep sums p).length = sums.length := by simp [ledStep]
theorem ledStep_at {sums : List Int} {p : Pump} (ha : p.a < sums.length) (hb : p.b < sums.length) (x : Nat) :
    (ledStep sums p).getD x 0 = sums.getD x 0 + (if p.b = x then p.pos * (p.stroke : Int) else 0) - (if p.a = x then p.pos * (p.stroke : Int) else 0) := by
  unfold ledStep
  rw [getD_set (by simpa using hb), getD_set ha, getD_set ha]
  generalize p.pos * (p.stroke : Int) = z
  by_cases e1 : p.b = x
  · subst e1
    by_cases e2 : p.b = p.a
    · rw [if_pos rfl, if_pos e2, if_pos rfl, if_pos e2.symm, e2]
      omega
    · rw [if_pos rfl, if_neg e2, if_pos rfl, if_neg (fun q => e2 q.symm)]
      omega
  · have e1' : ¬ x = p.b := fun q => e1 q.symm
    simp only [if_neg e1, if_neg e1']
    by_cases e2 : p.a = x
    · subst e2
      simp only [if_true]
      omega
    · have e2' : ¬ x = p.a := fun q => e2 q.symm
      simp only [if_neg e2, if_neg e2']
      omega
theorem led_fold (n x : Nat) : ∀ (ps : List Pump) (sums : List Int), sums.length = n → (∀ p, p ∈ ps → p.a < n ∧ p.b < n) →
    (ps.foldl ledStep sums).length = n ∧ (ps.foldl ledStep sums).getD x 0 = ps.foldl (fun n p => n + (if p.b = x then p.pos * (p.stroke : Int) else 0) - (if p.a = x then p.pos * (p.stroke : Int) else 0)) (sums.getD x 0)
  | [], sums, h, _ => ⟨h, rfl⟩
  | p :: ps, sums, h, hb => by
    have hp := hb p List.mem_cons_self
    have ih := led_fold n x ps (ledStep sums p) (by rw [ledStep_len]; exact h) fun q hq => hb q (List.mem_cons_of_mem _ hq)
    rw [ledStep_at (by omega) (by omega)] at ih
    exact ih
theorem ledger_eq {s : St} (w : Wf s) : s.pumps.foldl ledStep (List.replicate s.nodes.length 0) = (numbers s).map fun x => net s x := by
  have hb : ∀ p, p ∈ s.pumps → p.a < s.nodes.length ∧ p.b < s.nodes.length := fun p hp => ⟨(w.pu p hp).a, (w.pu p hp).b⟩
  have hl := (led_fold s.nodes.length 0 s.pumps (List.replicate s.nodes.length 0) (by simp) hb).1
  apply List.ext_getElem
  · rw [hl]
    simp [numbers]
  · intro i h1 h2
    have hi : i < s.nodes.length := by rw [hl] at h1; exact h1
    have h := (led_fold s.nodes.length i s.pumps (List.replicate s.nodes.length 0) (by simp) hb).2
    rw [List.getD_eq_getElem?_getD, List.getElem?_eq_getElem h1] at h
    simp only [Option.getD_some] at h
    rw [h]
    simp [numbers, net, List.getD_eq_getElem?_getD, hi]
/-! ### every call keeps the state well -/
theorem mem_set {α : Type} {l : List α} {i : Nat} {x y : α} (h : y ∈ l.set i x) : y = x ∨ y ∈ l := by
  rcases List.mem_or_eq_of_mem_set h with h | h
  · exact .inr h
  · exact .inl h
theorem Wf.putValve {s : St} (w : Wf s) {v : Int} {x : Valve} (h : WfV s.nodes.length x) : Wf (putValve s v x) := w.withValves (fun u hu => by
  rcases mem_set hu with rfl | hu
  · exact h
  · exact w.va u hu) (by simpa using w.vaL)
theorem Wf.putPump {s : St} (w : Wf s) {v : Int} {x : Pump} (h : WfP s.nodes.length x) : Wf (putPump s v x) := w.withPumps (fun u hu => by
  rcases mem_set hu with rfl | hu
  · exact h
  · exact w.pu u hu) (by simpa using w.puL)
theorem isNode_iff {s : St} {a : Int} : isNode s a = true ↔ 0 ≤ a ∧ a < (s.nodes.length : Int) := by unfold isNode; rw [Bool.and_eq_true, decide_eq_true_iff, decide_eq_true_iff]
theorem within_iff {n lo hi : Int} : within n lo hi = true ↔ lo ≤ n ∧ n ≤ hi := by unfold within; rw [Bool.and_eq_true, decide_eq_true_iff, decide_eq_true_iff]
theorem valveAt_mem {s : St} {v : Int} {x : Valve} (h : valveAt s v = some x) : x ∈ s.valves := by
  unfold valveAt at h
  split at h
  · exact List.mem_of_getElem? h
  · cases h
theorem pumpAt_mem {s : St} {v : Int} {x : Pump} (h : pumpAt s v = some x) : x ∈ s.pumps := by
  unfold pumpAt at h
  split at h
  · exact List.mem_of_getElem? h
  · cases h
theorem wf_step {s : St} (w : Wf s) (c : Call) : Wf (step s c).1 := by
  cases c with
  | node f =>
    unfold step
    simp only
    split
    · exact w
    · split
      · exact w
      · rename_i h1 h2
        have h1 := within_iff.mp (by simpa using h1)
        have hl : s.nodes.length + 1 ≤ 24 := by unfold NODES at h2; omega
        refine ⟨by simpa using hl, fun g hg => ?_, w.pi.mono (by simp), w.piL, fun v hv => (w.va v hv).mono (by simp), w.vaL, w.fo.mono (by simp), w.foL, w.foN, fun v hv => (w.pu v hv).mono (by simp), w.puL⟩
        rcases List.mem_append.mp hg with hg | hg
        · exact w.fl g hg
        · simp at hg
          omega
  | pipe a b =>
    unfold step
    simp only
    split
    · exact w
    · split
      · exact w
      · split
        · exact w
        · split
          · exact w
          · rename_i h1 h2 h3 h4
            simp only [Bool.or_eq_true, Bool.not_eq_true', not_or, Bool.not_eq_false] at h1
            have ha := isNode_iff.mp h1.1
            have hb := isNode_iff.mp h1.2
            unfold PIPES at h3
            exact ⟨w.n24, w.fl, w.pi.snoc (by omega) (by omega), by simp; omega, w.va, w.vaL, w.fo, w.foL, w.foN, w.pu, w.puL⟩
  | valve a b t =>
    unfold step
    simp only
    split
    · exact w
    · split
      · exact w
      · split
        · exact w
        · rename_i h1 h2 h3
          simp only [Bool.or_eq_true, Bool.not_eq_true', not_or, Bool.not_eq_false] at h1
          have ha := isNode_iff.mp h1.1
          have hb := isNode_iff.mp h1.2.1
          have ht := within_iff.mp h1.2.2
          unfold VALVES at h3
          refine w.withValves (fun v hv => ?_) (by simp; omega)
          rcases List.mem_append.mp hv with hv | hv
          · exact w.va v hv
          · simp at hv
            subst hv
            exact ⟨by simp only; omega, by simp only; omega, by simp only; omega, Nat.zero_le _⟩
  | forbid a b =>
    unfold step
    simp only
    split
    · exact w
    · split
      · exact w
      · split
        · exact w
        · split
          · exact w
          · split
            · exact w
            · rename_i h1 h2 h3 h4 h5
              simp only [Bool.or_eq_true, Bool.not_eq_true', not_or, Bool.not_eq_false] at h1
              have ha := isNode_iff.mp h1.1
              have hb := isNode_iff.mp h1.2
              unfold PAIRS at h4
              refine ⟨w.n24, w.fl, w.pi, w.piL, w.va, w.vaL, w.fo.snoc (by omega) (by omega), by simp; omega, ?_, w.pu, w.puL⟩
              rw [List.pairwise_append]
              refine ⟨w.foN, by simp, fun p hp q hq => ?_⟩
              simp only [List.mem_singleton] at hq
              subst hq
              cases e : sameEnds p (a.toNat, b.toNat) with
              | false => rfl
              | true => exact absurd (List.any_eq_true.mpr ⟨p, hp, e⟩) h3
  | allow a b =>
    unfold step
    simp only
    split
    · exact w
    · split
      · exact ⟨w.n24, w.fl, w.pi, w.piL, w.va, w.vaL, fun p hp => w.fo p (List.mem_filter.mp hp).1, Nat.le_trans (List.length_filter_le _ _) w.foL, w.foN.filter _, w.pu, w.puL⟩
      · exact w
  | pump a b d k l e t =>
    unfold step
    simp only
    split
    · exact w
    · split
      · exact w
      · split
        · exact w
        · rename_i h1 h2 h3
          simp only [Bool.or_eq_true, Bool.not_eq_true', not_or, Bool.not_eq_false] at h1
          have ha := isNode_iff.mp h1.1
          have hb := isNode_iff.mp h1.2.1
          have hd := within_iff.mp h1.2.2.1
          have hk := within_iff.mp h1.2.2.2.1
          have he := within_iff.mp h1.2.2.2.2.2.1
          unfold PUMPS at h3
          refine w.withPumps (fun v hv => ?_) (by simp; omega)
          rcases List.mem_append.mp hv with hv | hv
          · exact w.pu v hv
          · simp at hv
            subst hv
            exact ⟨by simp only; omega, by simp only; omega, by simp only; omega, by simp only; omega, by simp only; omega, by simp only; omega, by simp only; omega, by simp only; omega, fun q => absurd rfl q⟩
  | open_ v =>
    unfold step withValve
    simp only
    split
    · exact w
    · rename_i x hx
      have wx := w.va x (valveAt_mem hx)
      split
      · exact w
      · split
        · exact w
        · exact w.putValve ⟨wx.a, wx.b, wx.tr, wx.pl⟩
  | shut v =>
    unfold step withValve
    simp only
    split
    · exact w
    · rename_i x hx
      have wx := w.va x (valveAt_mem hx)
      split
      · exact w
      · exact w.putValve ⟨wx.a, wx.b, wx.tr, wx.pl⟩
  | shutAll =>
    unfold step
    refine w.withValves (fun v hv => ?_) (by simpa using w.vaL)
    obtain ⟨u, hu, rfl⟩ := List.mem_map.mp hv
    have wu := w.va u hu
    exact ⟨wu.a, wu.b, wu.tr, wu.pl⟩
  | run p t =>
    unfold step withPump
    simp only
    split
    · exact w
    · rename_i x hx
      have wx := w.pu x (pumpAt_mem hx)
      split
      · exact w
      · split
        · exact w
        · rename_i h1 h2
          have h1 := within_iff.mp (by simpa using h1)
          exact w.putPump ⟨wx.a, wx.b, wx.den, wx.stroke, wx.per, h1, wx.sp, wx.ac, fun q => absurd q h2⟩
  | tick n =>
    unfold step
    simp only
    split
    · exact w
    · split
      · exact w
      · exact ticks_wf _ w
  | pulses p k =>
    unfold step withPump
    simp only
    split
    · exact w
    · rename_i x hx
      split
      · exact w
      · exact w.putPump (pulses_wf (w.pu x (pumpAt_mem hx)) _)
  | clear p =>
    unfold step withPump
    simp only
    split
    · exact w
    · rename_i x hx
      have wx := w.pu x (pumpAt_mem hx)
      split
      · exact w
      · exact w.putPump ⟨wx.a, wx.b, wx.den, wx.stroke, wx.per, wx.tg, wx.sp, wx.ac, fun q => absurd rfl q⟩
  | stopAll =>
    unfold step
    refine w.withPumps (fun v hv => ?_) (by simpa using w.puL)
    obtain ⟨u, hu, rfl⟩ := List.mem_map.mp hv
    have wu := w.pu u hu
    exact ⟨wu.a, wu.b, wu.den, wu.stroke, wu.per, by simp only; omega, wu.sp, wu.ac, fun q => ⟨rfl, (wu.ft q).2⟩⟩
  | joined a b => unfold step; simp only; split <;> exact w
  | islands => exact w
  | way a b =>
    unfold step
    simp only
    split
    · exact w
    · split <;> exact w
  | would v => unfold step withValve; simp only; split <;> exact w
  | bridges => exact w
  | valveState v => unfold step withValve; simp only; split <;> exact w
  | pumpState v => unfold step withPump; simp only; split <;> exact w
  | ahead p n =>
    unfold step withPump
    simp only
    split
    · exact w
    · split <;> exact w
  | coils v => unfold step withPump; simp only; split <;> exact w
  | ledger => exact w
  | time => exact w
  | forbidden => exact w
end Pn

set_option linter.all false
namespace Pn
open Vbdlad
theorem st_0 (s : St) (f : Int) : stepRaw s [0, f] = (
    if !within f 0 3 then (s, [-1])
    else if NODES ≤ s.nodes.length then (s, [-2])
    else ({ s with nodes := s.nodes ++ [f.toNat] }, [(s.nodes.length : Int)])) := rfl
theorem st_1 (s : St) (a b : Int) : stepRaw s [1, a, b] = (
    if !isNode s a || !isNode s b then (s, [-1])
    else if a = b then (s, [-3])
    else if PIPES ≤ s.pipes.length then (s, [-2])
    else if wouldJoin s a.toNat b.toNat ≠ [] then (s, [-5])
    else ({ s with pipes := s.pipes ++ [(a.toNat, b.toNat)] }, [(s.pipes.length : Int)])) := rfl
theorem st_2 (s : St) (a b t : Int) : stepRaw s [2, a, b, t] = (
    if !isNode s a || (!isNode s b || !within t 0 60) then (s, [-1])
    else if a = b then (s, [-3])
    else if VALVES ≤ s.valves.length then (s, [-2])
    else ({ s with valves := s.valves ++ [⟨a.toNat, b.toNat, t.toNat, 0, false⟩] }, [(s.valves.length : Int)])) := rfl
theorem st_3 (s : St) (a b : Int) : stepRaw s [3, a, b] = (
    if !isNode s a || !isNode s b then (s, [-1])
    else if a = b then (s, [-3])
    else if s.forbidden.any (fun p => sameEnds p (a.toNat, b.toNat)) = true then (s, [0])
    else if PAIRS ≤ s.forbidden.length then (s, [-2])
    else if joined s a.toNat b.toNat = true then (s, [-6])
    else ({ s with forbidden := s.forbidden ++ [(a.toNat, b.toNat)] }, [1])) := rfl
theorem st_4 (s : St) (a b : Int) : stepRaw s [4, a, b] = (
    if !isNode s a || !isNode s b then (s, [-1])
    else if s.forbidden.any (fun p => sameEnds p (a.toNat, b.toNat)) = true then ({ s with forbidden := s.forbidden.filter fun p => !sameEnds p (a.toNat, b.toNat) }, [1])
    else (s, [0])) := rfl
theorem st_5 (s : St) (a b d k l e t : Int) : stepRaw s [5, a, b, d, k, l, e, t] = (
    if !isNode s a || (!isNode s b || (!within d 1 1000000 || (!within k 1 1000000 || (!within l 1 1000000 || (!within e 1 64 || !within t 0 1000))))) then (s, [-1])
    else if a = b then (s, [-3])
    else if PUMPS ≤ s.pumps.length then (s, [-2])
    else ({ s with pumps := s.pumps ++ [⟨a.toNat, b.toNat, d.toNat, k.toNat, l.toNat, e.toNat, t.toNat, 0, 0, 0, 0, 0, 0, 0⟩] }, [(s.pumps.length : Int)])) := rfl
theorem st_6 (s : St) (v : Int) : stepRaw s [6, v] = ( withValve s v fun x =>
    if x.up = true then (s, [0])
    else if wouldJoin s x.a x.b ≠ [] then (s, [-5])
    else (putValve s v { x with up := true }, [1])) := rfl
theorem st_7 (s : St) (v : Int) : stepRaw s [7, v] = ( withValve s v fun x => if x.up = false then (s, [0]) else (putValve s v { x with up := false }, [1])) := rfl
theorem st_8 (s : St) : stepRaw s [8] = ( ({ s with valves := s.valves.map fun x => { x with up := false } }, [((s.valves.filter fun x => x.up).length : Int)])) := rfl
theorem st_9 (s : St) (p t : Int) : stepRaw s [9, p, t] = ( withPump s p fun x =>
    if !within t (-(x.den : Int)) (x.den : Int) then (s, [-1])
    else if x.fault ≠ 0 then (s, [-7])
    else (putPump s p { x with target := t }, [1])) := rfl
theorem st_10 (s : St) (n : Int) : stepRaw s [10, n] = (
    if !within n 1 (TICKS : Int) then (s, [-1])
    else if LASTTICK < s.tick + n.toNat then (s, [-8])
    else let t := ticks n.toNat s; (t, [((faults t - faults s : Nat) : Int)])) := rfl
theorem st_11 (s : St) (p k : Int) : stepRaw s [11, p, k] = ( withPump s p fun x =>
    if !within k 0 1000000 then (s, [-1])
    else let r := pulses x k.toNat; (putPump s p r.2, [(r.1 : Int), (r.2.fault : Int)])) := rfl
theorem st_12 (s : St) (p : Int) : stepRaw s [12, p] = ( withPump s p fun x => if x.fault = 0 then (s, [0]) else (putPump s p { x with fault := 0, bad := 0 }, [1])) := rfl
theorem st_13 (s : St) (a b : Int) : stepRaw s [13, a, b] = ( if !isNode s a || !isNode s b then (s, [-1]) else (s, [bit (joined s a.toNat b.toNat)])) := rfl
theorem st_14 (s : St) : stepRaw s [14] = ( (s, counted ((numbers s).map fun x => island s x))) := rfl
theorem st_15 (s : St) (a b : Int) : stepRaw s [15, a, b] = (
    if !isNode s a || !isNode s b then (s, [-1])
    else match way s a.toNat b.toNat with
      | none => (s, [-9])
      | some l => (s, counted l)) := rfl
theorem st_16 (s : St) (v : Int) : stepRaw s [16, v] = ( withValve s v fun x => (s, pairsTold (wouldJoin s x.a x.b))) := rfl
theorem st_17 (s : St) : stepRaw s [17] = ( (s, counted ((List.range s.valves.length).filter fun i => bridge s i))) := rfl
theorem st_18 (s : St) (v : Int) : stepRaw s [18, v] = ( withValve s v fun x => (s, [bit (counts x), bit x.up, (x.place : Int), (x.travel : Int), (x.a : Int), (x.b : Int)])) := rfl
theorem st_19 (s : St) (p : Int) : stepRaw s [19, p] = ( withPump s p fun x => (s, [(x.fault : Int), x.target, x.speed, x.acc, x.pos, (x.moved : Int), (x.bad : Int)])) := rfl
theorem st_20 (s : St) (p n : Int) : stepRaw s [20, p, n] = ( withPump s p fun x => if !within n 0 10000 then (s, [-1]) else (s, [0, (alone n.toNat x).pos - x.pos])) := rfl
theorem st_21 (s : St) (p : Int) : stepRaw s [21, p] = ( withPump s p fun x => (s, [(coils x : Int)])) := rfl
theorem st_22 (s : St) : stepRaw s [22] = ( (s, (s.nodes.length : Int) :: (numbers s).map fun x => net s x)) := rfl
theorem st_23 (s : St) : stepRaw s [23] = ( ({ s with pumps := s.pumps.map fun x => { x with target := 0 } }, [((s.pumps.filter fun x => x.target != 0).length : Int)])) := rfl
theorem st_24 (s : St) : stepRaw s [24] = ( (s, [(s.tick : Int)])) := rfl
theorem st_25 (s : St) : stepRaw s [25] = ( (s, pairsTold s.forbidden)) := rfl
end Pn

set_option Elab.async false
set_option linter.all false
set_option maxRecDepth 100000
set_option maxHeartbeats 2000000
/-! more rules over the layer: calls in short, a tuple's items added to a list, a pair sought in and taken out of a list of pairs, list(range(n)), zip of a list and a tuple -/
namespace L2
open PySem PySem.Spec PyProof.Rows
def star : Expr → Bool
  | .Starred _ _ => true
  | _ => false
theorem starEach_one {e : Expr} {es : List Expr} {env : Env} (h : star e = false) : starEach (e :: es) env = (false, eval e env) :: starEach es env := by
  cases e <;> first | rfl | cases h
def noStar : List Expr → Bool
  | [] => true
  | e :: es => !star e && noStar es
theorem noStar_any {pos : Pos} {env : Env} : ∀ {es : List Expr}, noStar es = true → (backTo pos (starEach es env)).any (·.1) = false
  | [], _ => rfl
  | e :: es, h => by
    have h' : (!star e && noStar es) = true := h
    rw [Bool.and_eq_true, Bool.not_eq_true'] at h'
    rw [starEach_one h'.1]
    show (false || (backTo pos (starEach es env)).any (·.1)) = false
    rw [noStar_any h'.2]
    rfl
theorem noStar_head {e : Expr} {es : List Expr} (h : noStar (e :: es) = true) : star e = false ∧ noStar es = true := by
  have h' : (!star e && noStar es) = true := h
  rw [Bool.and_eq_true, Bool.not_eq_true'] at h'
  exact h'
section
variable {X : Cx} {e o : Expr} {es : List Expr} {te ta : TE} {t : TA} {pos p apos cpos : Pos} {x m : Str} {k : Nat} {ps : List Str} {sp : Sp} {C : Addr}
theorem pac (ha : PE X e te) (hr : PA X es t) (hs : star e = false := by rfl) : PA X (e :: es) (tCons te t) := pa_cons ha hr (starEach_one hs)
/-- a module's whole number -/
theorem pe_gi {n : Int} (hg : Gl X x) (hm : ∃ tk, X.mg x = some (.int n tk)) (hd : (x == ("__debug__" : Str)) = false := by decide) : PE X (.Name x pos) (tC (.int n)) := by
  obtain ⟨tk, hm⟩ := hm
  exact pe_glob hg hm ⟨tk, rfl⟩ hd
/-- a module's object -/
theorem pe_gt {a : Addr} (hg : Gl X x) (hm : X.mg x = some (.ref a)) (hd : (x == ("__debug__" : Str)) = false := by decide) : PE X (.Name x pos) (tC (.ref a)) := pe_glob hg hm rfl hd
/-- a def of the module that keeps its promise -/
def GFn (P : Program) (w : World) (K : PySem.W.Frag) (mg : Str → Option Value) (base : Heap) (k : Nat) (x : Str) (ps : List Str) (sp : Sp) : Prop :=
  ∃ f fd, FnOk P w K mg base CX0 k f fd ps sp ∧ mg x = some (.ref f) ∧ PySem.W.keepIn K (.ref f) = true ∧ Binds K fd ps []
/-- a method that keeps its promise -/
def GMe (P : Program) (w : World) (K : PySem.W.Frag) (mg : Str → Option Value) (base : Heap) (k : Nat) (C : Addr) (m : Str) (ps : List Str) (sp : Sp) : Prop :=
  ∃ f fd, FnOk P w K mg base CX0 k f fd ps sp ∧ Meth K C m f ∧ Binds K fd ps []
/-- a class whose __init__ keeps its promise -/
def GMk (P : Program) (w : World) (K : PySem.W.Frag) (mg : Str → Option Value) (base : Heap) (k : Nat) (C : Addr) (x : Str) (ps : List Str) (sp : Sp) : Prop :=
  ∃ f fd, FnOk P w K mg base CX0 k f fd ps sp ∧ mg x = some (.ref C) ∧ Mk K C f ∧ Binds K fd ps []
theorem pe_fn (G : GFn X.prog X.w X.K X.mg X.base k x ps sp) (hr : Room k X.A) (hg : Gl X x) (ha : PA X (e :: es) t) (hdb : (x == ("__debug__" : Str)) = false := by decide) (hn : noStar (e :: es) = true := by rfl) :
    PE X (.Call (.Name x p) (e :: es) [] pos) (tCall sp [] E0 t) := by
  obtain ⟨f, fd, F, hm, hk, hb⟩ := G
  exact pe_call F hr hg hm hk hb .nil pass0 ha hdb (starEach_one (noStar_head hn).1) (noStar_any (noStar_head hn).2)
theorem pe_mk (G : GMk X.prog X.w X.K X.mg X.base k C x ps sp) (hr : Room (k + 1) X.A) (hg : Gl X x) (ha : PA X (e :: es) t) (hdb : (x == ("__debug__" : Str)) = false := by decide) (hn : noStar (e :: es) = true := by rfl) :
    PE X (.Call (.Name x p) (e :: es) [] pos) (tMake C sp [] E0 t) := by
  obtain ⟨f, fd, F, hm, M, hb⟩ := G
  exact pe_make M F hr hg hm hb .nil pass0 ha hdb (starEach_one (noStar_head hn).1) (noStar_any (noStar_head hn).2)
theorem pe_mk0 (G : GMk X.prog X.w X.K X.mg X.base k C x ps sp) (hr : Room (k + 1) X.A) (hg : Gl X x) (hdb : (x == ("__debug__" : Str)) = false := by decide) :
    PE X (.Call (.Name x p) [] [] pos) (tMake C sp [] E0 tNil) := by
  obtain ⟨f, fd, F, hm, M, hb⟩ := G
  exact pe_make0 M F hr hg hm hb .nil pass0 hdb
theorem pe_me {pl : Sem Bool} (he : PE X o ta) (c : Cls X.K C) (G : GMe X.prog X.w X.K X.mg X.base k C m ps sp) (hr : Room k X.A) (ha : PA X (e :: es) t) (hn : noStar (e :: es) = true := by rfl)
    (ht : eval (.Call (.Attribute o m apos) (e :: es) [] pos) X.env = (do
      let ov ← eval o X.env
      standAt apos.atName
      let (f, first) ← holding [ov] (getMethod ov m pl)
      callWith pos f first (backTo pos (starEach (e :: es) X.env)) (backToKw pos (keywordEach [] X.env))) := by rfl) :
    PE X (.Call (.Attribute o m apos) (e :: es) [] pos) (tMeth C m sp [] E0 ta t) := by
  obtain ⟨f, fd, F, hm, hb⟩ := G
  exact pe_meth he c hm F hr hb .nil pass0 ha (starEach_one (noStar_head hn).1) (noStar_any (noStar_head hn).2) ht
theorem pe_me0 {pl : Sem Bool} (he : PE X o ta) (c : Cls X.K C) (G : GMe X.prog X.w X.K X.mg X.base k C m ps sp) (hr : Room k X.A)
    (ht : eval (.Call (.Attribute o m apos) [] [] pos) X.env = (do
      let ov ← eval o X.env
      standAt apos.atName
      let (f, first) ← holding [ov] (getMethod ov m pl)
      callWith pos f first (backTo pos (starEach [] X.env)) (backToKw pos (keywordEach [] X.env))) := by rfl) :
    PE X (.Call (.Attribute o m apos) [] [] pos) (tMeth C m sp [] E0 ta tNil) := by
  obtain ⟨f, fd, F, hm, hb⟩ := G
  exact pe_meth0 he c hm F hr hb .nil pass0 ht
/-- a built-in function -/
theorem pe_blt {id : String} {r : List V → Hp → VK → Prop} (hc : CallR X (.builtin id) r) (hg : Gl X x) (hm : X.mg x = none) (hv : bootBuiltins x = some (.builtin id)) (ha : PA X (e :: es) t) (hx : x ≠ "__name__" := by decide) (hdb : (x == ("__debug__" : Str)) = false := by decide)
    (hn : noStar (e :: es) = true := by rfl) : PE X (.Call (.Name x p) (e :: es) [] pos) (tCB r t) :=
  pe_callB hc hg hm hv ha hx hdb (starEach_one (noStar_head hn).1) (noStar_any (noStar_head hn).2)
theorem pe_bty {T : String} {r : List V → Hp → VK → Prop} (hc : CallR X (.type T) r) (hg : Gl X x) (hm : X.mg x = none) (hv : bootBuiltins x = some (.type T)) (ha : PA X (e :: es) t) (hx : x ≠ "__name__" := by decide) (hdb : (x == ("__debug__" : Str)) = false := by decide)
    (hn : noStar (e :: es) = true := by rfl) : PE X (.Call (.Name x p) (e :: es) [] pos) (tCB r t) :=
  pe_callTy hc hg hm hv ha hx hdb (starEach_one (noStar_head hn).1) (noStar_any (noStar_head hn).2)
/-- a list's method with one argument -/
theorem pe_lm {to : TE} {name : Str} {id : String} {r : V → List V → Hp → VK → Prop} (slot : Slot "list" name id) (hty : typeOf (.builtin id) = pure (.type "method_descriptor")) (hm : MtR X id r) (ho : PE X o to) (ha : PA X [e] t)
    (hbase : attributeBase o name X.env (eval o X.env) = eval o X.env := by rfl) (hline : (apos.endLine == cpos.line) = true := by rfl) (hn : star e = false := by rfl) :
    PE X (.Call (.Attribute o name apos) [e] [] cpos) (tBM X.K "list" r to t) := by
  refine pe_bm PySem.F.plainAttrs_list slot hty hm ho ha hbase ?_ hline (starEach_one hn) rfl
  rw [starEach_one hn]
  rfl
/-- the function that stands in a name -/
def tCallV (X : Cx) (tv : TE) (t : TA) : TE := fun σ H Q => tv σ H fun y H1 => ∃ f fd ps sp k, y = .ref f ∧ FnOk X.prog X.w X.K X.mg X.base CX0 k f fd ps sp ∧ PySem.W.keepIn X.K (.ref f) = true ∧ Binds X.K fd ps [] ∧ Room k X.A ∧ t σ H1 fun vs H2 => sp (vs ++ []) H2 Q E0
theorem pe_cv {tv : TE} (hv : PE X (.Name x p) tv) (ha : PA X (e :: es) t) (hn : noStar (e :: es) = true := by rfl) : PE X (.Call (.Name x p) (e :: es) [] pos) (tCallV X tv t) := by
  intro pins s σ H Q I h
  refine wpAny_Call_Name_kw (thn (hv pins s σ H _ I h) fun u s1 ⟨y, H1, I1, ry, f, fd, ps, sp, k, ey, F, hk, hb, hr, q⟩ => ?_)
  subst ey
  obtain rfl : u = Value.ref f := ry
  refine PySem.W.callWith_K (h₀ := X.base) I1.ok.mod.kin hk (thn (ha pos pins s1 σ H1 _ I1 q) fun us s2 ⟨vs, H2, I2, r, q2⟩ => ⟨I2.kIn, ?_⟩) (starEach_one (noStar_head hn).1) (noStar_any (noStar_head hn).2)
  exact run_fn F hr hb .nil pass0 I2 r q2
end
/-! ### an attribute, a length -/
def FldR (K : PySem.W.Frag) (x : V) (f : Str) (H : Hp) (Q : VK) : Prop := ∃ a C dx fs v, x = .ref a ∧ H a = some (.ins C dx fs) ∧ Cls K C ∧ NoAttr K C f ∧ fs.lookup f = some v ∧ Q v H
def tAt (K : PySem.W.Frag) (ta : TE) (f : Str) : TE := fun σ H Q => ta σ H fun x H1 => FldR K x f H1 Q
theorem pe_at {X : Cx} {e : Expr} {f : Str} {pos : Pos} {ta : TE} (he : PE X e ta) (hb : attributeBase e f X.env (eval e X.env) = eval e X.env := by rfl) : PE X (.Attribute e f pos) (tAt X.K ta f) := pe_fld he hb
def LenIs (K : PySem.W.Frag) (H : Hp) (p : Addr) (n : Nat) : Prop := ∃ ys, (SqL K H p ys ∨ SqT K H p ys) ∧ ys.length = n
theorem call_ln {X : Cx} : CallR X (.builtin "len") (fun xs H Q => ∃ p n, xs = [.ref p] ∧ LenIs X.K H p n ∧ Q (.int n) H) := by
  intro pins s σ H xs us Q I r h
  obtain ⟨p, n, e, ⟨ys, h1, h2⟩, q⟩ := h
  subst h2
  exact call_len_seq pins s σ H xs us Q I r ⟨p, ys, e, h1, q⟩
theorem LenIs.of {K : PySem.W.Frag} {H : Hp} {p : Addr} {ys : List V} {n : Nat} (h : H p = some (.lst ys)) (e : ys.length = n := by simp) : LenIs K H p n := ⟨ys, .inl (SqL.of h), e⟩
/-! ### defs of the text -/
/-- a def of the module, as it stands behind the top -/
def FnD (K : PySem.W.Frag) (mg : Str → Option Value) (x : Str) (st : Stmt) : Prop := ∃ f fd, Fun K x x st f fd ∧ mg x = some (.ref f)
def MeD (K : PySem.W.Frag) (C : Addr) (m qual : Str) (st : Stmt) : Prop := ∃ f fd, Fun K m qual st f fd ∧ Meth K C m f
def MkD (K : PySem.W.Frag) (mg : Str → Option Value) (C : Addr) (x qual : Str) (st : Stmt) : Prop := ∃ f fd, Fun K "__init__" qual st f fd ∧ Mk K C f ∧ mg x = some (.ref C)
/-- its arguments bind by their places -/
def Bnd (x qual : Str) (st : Stmt) (ps : List Str) : Prop := ∀ (kV doc pm : Value) (an : Option Addr) (cdv ct : Value) (us : List Value), us.length = ps.length →
  bindArgs (PySem.W.fnOf x qual (defArgs st) (defBody st) (defScope st) .none kV doc pm an cdv ct) ⟨us, []⟩ = pure (ps.zip us)
/-- what a def's body is to do -/
def Body (P : Program) (w : World) (K : PySem.W.Frag) (mg : Str → Option Value) (base : Heap) (k : Nat) (qual : Str) (st : Stmt) (N : List Str) (sp : Sp) : Prop :=
  ∀ (f : Addr) (cdv : Value) (A : Around) (outer : List Env) (s : Shared) (H : Hp) (vs : List V) (Q : VK) (E : XK), Room k (A.deeper (envOfC qual (defScope st) s.heap.objs.size f cdv)) → sp vs H Q E →
    ∃ t, PSs (cxOf CX0 P w K mg base N qual (defScope st) f cdv A outer s H E).nox (defBody st) t ∧ t { nx := fun _ H' => Q .non H', rt := Q } (start N vs) H
section
variable {P : Program} {w : World} {K : PySem.W.Frag} {mg : Str → Option Value} {base : Heap} {x m qual : Str} {st : Stmt} {N ps : List Str} {k : Nat} {sp : Sp} {C : Addr}
theorem FnD.ok (D : FnD K mg x st) (S : FnScope N ps (defScope st)) (b : Bnd x x st ps) (len : ∀ vs H Q E, sp vs H Q E → vs.length = ps.length) (B : Body P w K mg base k x st N sp) : GFn P w K mg base (k + 1) x ps sp := by
  obtain ⟨f, fd, F, g⟩ := D
  exact ⟨f, fd, F.ok S len (B f), g, F.kp, F.binds b⟩
theorem MeD.ok (D : MeD K C m qual st) (S : FnScope N ps (defScope st)) (b : Bnd m qual st ps) (len : ∀ vs H Q E, sp vs H Q E → vs.length = ps.length) (B : Body P w K mg base k qual st N sp) : GMe P w K mg base (k + 1) C m ps sp := by
  obtain ⟨f, fd, F, g⟩ := D
  exact ⟨f, fd, F.ok S len (B f), g, F.binds b⟩
theorem MkD.ok (D : MkD K mg C x qual st) (S : FnScope N ps (defScope st)) (b : Bnd "__init__" qual st ps) (len : ∀ vs H Q E, sp vs H Q E → vs.length = ps.length) (B : Body P w K mg base k qual st N sp) : GMk P w K mg base (k + 1) C x ps sp := by
  obtain ⟨f, fd, F, M, g⟩ := D
  exact ⟨f, fd, F.ok S len (B f), g, M, F.binds b⟩
end
/-! ### xs[i] by values -/
section
variable {X : Cx}
theorem get_list : PGet X (fun o i H Q => ∃ p xs j v, o = .ref p ∧ i = .int ((j : Nat) : Int) ∧ H p = some (.lst xs) ∧ xs[j]? = some v ∧ Q v H) := by
  intro pins s σ H o i ov iv Q I ro ri h
  obtain ⟨p, xs, j, v, rfl, rfl, hp, hj, q⟩ := h
  cases ro
  obtain ⟨t, rfl⟩ := ri
  obtain ⟨its, n, r, ho, hz⟩ := I.lst hp
  obtain ⟨u, hu, ru⟩ := r.get hj
  have hlt : j < its.length := (List.getElem?_eq_some_iff.mp hu).1
  have hl := r.length
  have hn := line63
  exact wpAny_getItem_list (items := its.toArray) ⟨_, ho, rfl, _, rfl⟩ (by omega) (by omega) (by simpa using hu) ⟨v, H, I, ru, q⟩
/-! ### xs.extend(a tuple) -/
theorem extend_tup (l : Addr) (items : Array Value) (n : Nat) (b : Addr) (dd : Option Addr) (sl : Array (Option Value)) (items2 : Array Value) (n2 : Nat) (hs0 : ¬(!items.isEmpty && Builtin.List.listTooLong (items.size + items2.size)) = true)
    (hs1 : items.size ≤ sizeLine) (hs2 : items.size + items2.size ≤ sizeLine + 1) :
    Meets (Builtin.«list.extend» ⟨[.ref l, .ref b], []⟩) (fun _ R s => s.heap.get? l = some { cls := .type "list", dict := none, data := .seq items n, slots := #[] } ∧
      s.heap.get? b = some { cls := .type "tuple", dict := dd, data := .seq items2 n2, slots := sl } ∧ R (.ok (.ret Value.none)) { s with heap := s.heap.update l (Obj.mapSeq fun y => y ++ items2), toks := s.toks }) :=
  .of_wp fun prog w A R s h => by
    obtain ⟨hp, g, d, tk, os⟩ := s
    obtain ⟨hl, hb, h⟩ := h
    have f1 := PySem.AutoSeq1.idx_int
    have f2 := PySem.F.sub_tuple_tuple
    have f3 := PySem.F.sub_list_list
    have f4 := PySem.F.sub_tuple_list
    have f5 := PySem.F.sub_list_tuple
    have hz' : (items ++ items2).size ≤ sizeLine + 1 := by rw [Array.size_append]; exact hs2
    wp_walk using (wpAny_updateSeq hl rfl (hz := hs1) (_hz' := hz')), PySem.AutoSeq1.wpAny_loadPart' hl, PySem.AutoSeq1.wpAny_loadPart' hb
    exact ⟨_, rfl, h⟩
def rExtendT : V → List V → Hp → VK → Prop := fun x vs H Q => ∃ l b xs zs, x = .ref l ∧ vs = [.ref b] ∧ H l = some (.lst xs) ∧ H b = some (.tup zs) ∧ xs.length + zs.length ≤ sizeLine ∧ Q .non (upd H l (.lst (xs ++ zs)))
theorem mt_extendT : MtM X "list.extend" rExtendT := by
  intro pins s σ H x vs v us Q I rx rv h
  obtain ⟨l, b, xs, zs, rfl, rfl, hH, hB, hz, q⟩ := h
  cases rx
  obtain ⟨u, rfl, ru⟩ := rv.one
  cases ru
  obtain ⟨z, its, n, r, hl, e⟩ := I.lstM hH
  obtain ⟨its2, r2, ⟨⟨cls, dd, data, sl⟩, ho2, hc2, n2, hd2⟩, hz2⟩ := I.tuple (SqT.of hB)
  simp only at hc2 hd2
  subst hc2 hd2
  have hl2 := r2.length
  have hsz : its.toArray.size + its2.toArray.size ≤ sizeLine := by rw [List.size_toArray, List.size_toArray]; omega
  have hlong : ¬ (!its.toArray.isEmpty && Builtin.List.listTooLong (its.toArray.size + its2.toArray.size)) = true := by
    rw [notLongL hsz, Bool.and_false]
    exact Bool.false_ne_true
  refine call_meets F.slot_list_extend ⟨_, e, rfl⟩ F.entry_list_extend (F.args_list_extend_2 _ _)
    (extend_tup l its.toArray n b dd sl its2.toArray n2 hlong (by rw [List.size_toArray]; omega) (by omega)) ⟨e, ho2, ?_⟩
  refine ⟨.non, _, I.lset (its' := its ++ its2) hH e (by simp) (r.append r2) ?_, rfl, q⟩
  rw [List.length_append]
  omega
/-! ### pairs of whole numbers: tuples in a list -/
def tup2 (q : Nat × Nat) : HO := .tup [.int q.1, .int q.2]
/-- the tuples at ts hold js -/
structure Prs (H : Hp) (ts : List Addr) (js : List (Nat × Nat)) : Prop where
  len : ts.length = js.length
  at_ : ∀ (i : Nat) (a : Addr), ts[i]? = some a → ∃ q, js[i]? = some q ∧ H a = some (tup2 q)
theorem eqv2 (a b c d : Int) : PyData.eqv (.tuple [.int a, .int b]) (.tuple [.int c, .int d]) = decide (a = c ∧ b = d) := by
  simp [PyData.eqv, PyData.eqvAll]
  rfl
theorem dp2 {K : PySem.W.Frag} {H : Hp} {a : Addr} {q : Nat × Nat} (h : H a = some (tup2 q)) : Dp K H (.ref a) (.tuple [.int q.1, .int q.2]) :=
  .tup (SqT.of h) (.cons (.int _) (.cons (.int _) .nil))
/-- whether the value is the pair -/
noncomputable def isPr (H : Hp) (q : Nat × Nat) (u : Value) : Bool := @decide (∃ a, u = .ref a ∧ H a = some (tup2 q)) (Classical.propDecidable _)
theorem tup2_inj {p q : Nat × Nat} (h : tup2 p = tup2 q) : p = q := by
  unfold tup2 at h
  injection h with h
  obtain ⟨p1, p2⟩ := p
  obtain ⟨q1, q2⟩ := q
  simp at h
  exact Prod.ext (Int.ofNat.inj h.1) (Int.ofNat.inj h.2)
theorem isPr_of {H : Hp} {p q : Nat × Nat} {a : Addr} (h : H a = some (tup2 p)) : isPr H q (.ref a) = decide (p = q) := by
  unfold isPr
  by_cases e : p = q
  · subst e
    rw [decide_eq_true rfl]
    exact @decide_eq_true _ (Classical.propDecidable _) ⟨a, rfl, h⟩
  · rw [decide_eq_false e]
    refine @decide_eq_false _ (Classical.propDecidable _) fun ⟨b, e1, e2⟩ => e ?_
    cases e1
    rw [h] at e2
    exact tup2_inj (Option.some.inj e2)
theorem eqAt2 {k : Nat} {pins : List (Addr × Obj)} {σ : St} {H : Hp} {s : Shared} {a b : Addr} {p q : Nat × Nat} (hr : Room k X.A) (I : Inv X pins σ H s) (h : H a = some (tup2 p)) (h' : H b = some (tup2 q)) :
    SeqAt.EqAt X.A.in1 s (.ref a) (.ref b) (decide (p = q)) := by
  obtain ⟨as, r1⟩ := Dp.reads I _ _ _ (dp2 h) (show RelV (.ref a) (.ref a) from rfl)
  obtain ⟨bs, r2⟩ := Dp.reads I _ _ _ (dp2 h') (show RelV (.ref b) (.ref b) from rfl)
  have hu : X.A.in1.units + 64 < cLine := by
    have := hr.un
    show X.A.units + 1 + 64 < cLine
    omega
  have sh : ∀ z : Nat × Nat, SeqAt.shaped (.tuple [.int z.1, .int z.2]) = true := fun z => rfl
  have e := SeqAt.eqAt_reads _ _ X.A.in1 s _ _ as bs r1 r2 (SeqAt.canLay_of_shaped (sh p)) (SeqAt.canLay_of_shaped (sh q)) (SeqAt.room_of_shaped (sh p) hu)
  rw [eqv2] at e
  have e2 : decide ((p.1 : Int) = q.1 ∧ (p.2 : Int) = q.2) = decide (p = q) := by
    obtain ⟨p1, p2⟩ := p
    obtain ⟨q1, q2⟩ := q
    refine decide_eq_decide.mpr ⟨fun ⟨h1, h2⟩ => ?_, fun h => ?_⟩
    · exact Prod.ext (Int.ofNat.inj h1) (Int.ofNat.inj h2)
    · cases h
      exact ⟨rfl, rfl⟩
  rw [e2] at e
  exact e
def rInT : R2 := fun x y H Q => ∃ a l ts js q, x = .ref a ∧ y = .ref l ∧ H a = some (tup2 q) ∧ H l = some (.lst (ts.map V.ref)) ∧ Prs H ts js ∧ Q (.bl (decide (q ∈ js))) H
theorem refs_vals : ∀ {ts : List Addr} {us : List Value}, Vals (ts.map V.ref) us → us = ts.map Value.ref
  | [], _, .nil => rfl
  | a :: ts, _, .cons r t => by
    cases r
    rw [refs_vals t]
    rfl
theorem any_prs {H : Hp} {q : Nat × Nat} : ∀ {ts : List Addr} {js : List (Nat × Nat)}, Prs H ts js → (ts.map Value.ref).any (isPr H q) = decide (q ∈ js)
  | [], [], _ => by simp
  | [], _ :: _, P => absurd P.len (by simp)
  | _ :: _, [], P => absurd P.len (by simp)
  | a :: ts, p :: js, P => by
    obtain ⟨p', e, h⟩ := P.at_ 0 a rfl
    cases e
    have P' : Prs H ts js := ⟨by simpa using P.len, fun i b hb => P.at_ (i + 1) b hb⟩
    rw [List.map_cons, List.any_cons, isPr_of h, any_prs P']
    by_cases z : p = q
    · simp [z]
    · have z' : ¬ q = p := fun e => z e.symm
      simp [z, z']
theorem op_in_tups {k : Nat} (hr : Room k X.A) : OpR X (compareOp .In) rInT := by
  intro pins s σ H x y v u Q I rx ry h
  obtain ⟨a, l, ts, js, p, rfl, rfl, ha, hl, P, q⟩ := h
  cases rx
  cases ry
  obtain ⟨its, r, pl, hz⟩ := I.list (SqL.of hl)
  rw [refs_vals r] at pl
  refine SeqAt.in_listAt (isPr H p) pl.isList (fun w hw => ?_) ⟨.bl _, H, I, rfl, ?_⟩
  · obtain ⟨b, hb, rfl⟩ := List.mem_map.mp (show w ∈ ts.map Value.ref by simpa using hw)
    obtain ⟨i, hi⟩ := List.getElem?_of_mem hb
    obtain ⟨p', _, h'⟩ := P.at_ i b hi
    rw [isPr_of h']
    exact eqAt2 hr I h' ha
  · rw [show (ts.map Value.ref).toArray.any (isPr H p) = (ts.map Value.ref).any (isPr H p) by simp, any_prs P]
    exact q
/-! ### xs.remove(a pair) -/
open PySem.MeetsSeq in
theorem remove_at (l : Addr) (items : Array Value) (n : Nat) (x : Value) (e : Value → Bool) (j : Nat) (hj : j < items.size) (hit : e items[j] = true) (k : Nat) (hz : items.size ≤ sizeLine) :
    ∀ i : Nat, j - i = k → i ≤ j → (∀ m (hm : m < items.size), i ≤ m → m < j → e items[m] = false) → Meets (Builtin.«list.remove.loop» ⟨[.ref l, x, rawInt i], []⟩)
      (fun A R s => s.heap.get? l = some { cls := .type "list", dict := none, data := .seq items n, slots := #[] } ∧ (∀ y, y ∈ items → SeqAt.EqAt A.in1 s y x (e y)) ∧
        R (.ok (.ret .none)) { s with heap := s.heap.update l (Obj.mapSeq fun ys => ys.eraseIdxIfInBounds j) }) := by
  induction k with
  | zero =>
    intro i hk hij hno prog w A R s h
    obtain ⟨hp, g, d, tk, os⟩ := s
    obtain ⟨hl, he, h⟩ := h
    have hij' : i = j := by omega
    subst hij'
    wp_walk using PySem.AutoSeq1.wpAny_loadPart' hl
    have hi : items[((i : Nat) : Int).toNat]? = some items[i] := by simp [hj]
    rw [hi]
    refine wpAny_bind (he _ (Array.getElem_mem hj) prog w _ _ ?_)
    rw [hit]
    have hz' : (items.eraseIdxIfInBounds i).size ≤ sizeLine + 1 := Nat.le_trans (size_erased items _) (Nat.le_succ_of_le hz)
    wp_walk using (wpAny_updateSeq hl rfl (hz := hz) (_hz' := hz')), PySem.AutoSeq1.wpAny_loadPart' hl
    simpa using h
  | succ k ih =>
    intro i hk hij hno prog w A R s h
    obtain ⟨hp, g, d, tk, os⟩ := s
    obtain ⟨hl, he, h⟩ := h
    have hlt : i < items.size := by omega
    wp_walk using PySem.AutoSeq1.wpAny_loadPart' hl
    have hi : items[((i : Nat) : Int).toNat]? = some items[i] := by simp [hlt]
    have hc : ((i : Int) + 1) = ((i + 1 : Nat) : Int) := by push_cast; rfl
    rw [hi]
    refine wpAny_bind (he _ (Array.getElem_mem hlt) prog w _ _ ?_)
    rw [hno i hlt (Nat.le_refl _) (by omega)]
    wp_walk
    rw [hc]
    exact ⟨plainId_quiet plain_remove_loop _, codeAny_builtin entry_remove_loop (by
      rw [Around.under_plainId plain_remove_loop _]
      exact ih (i + 1) (by omega) (by omega) (fun m hm h1 h2 => hno m hm (by omega) h2) prog w A R _ ⟨hl, he, h⟩)⟩
open PySem.MeetsSeq in
theorem remove_all (l : Addr) (items : Array Value) (n : Nat) (x : Value) (e : Value → Bool) (j : Nat) (hj : j < items.size) (hit : e items[j] = true) (hno : ∀ m (hm : m < items.size), m < j → e items[m] = false) (hz : items.size ≤ sizeLine) :
    Meets (Builtin.«list.remove» ⟨[.ref l, x], []⟩)
      (fun A R s => s.heap.get? l = some { cls := .type "list", dict := none, data := .seq items n, slots := #[] } ∧ (∀ y, y ∈ items → SeqAt.EqAt A.in1 s y x (e y)) ∧
        R (.ok (.ret .none)) { s with heap := s.heap.update l (Obj.mapSeq fun ys => ys.eraseIdxIfInBounds j) }) := by
  intro prog w A R s h
  obtain ⟨hp, g, d, tk, os⟩ := s
  obtain ⟨hl, he, h⟩ := h
  wp_walk using PySem.AutoSeq1.wpAny_loadPart' hl
  exact ⟨plainId_quiet plain_remove_loop _, codeAny_builtin entry_remove_loop (by
    rw [Around.under_plainId plain_remove_loop _]
    exact remove_at l items n x e j hj hit _ hz 0 rfl (Nat.zero_le _) (fun m hm _ h2 => hno m hm h2) prog w A R _ ⟨hl, he, h⟩)⟩
theorem erase_map {α β : Type} (f : α → β) : ∀ (l : List α) (i : Nat), (l.map f).eraseIdx i = (l.eraseIdx i).map f
  | [], _ => by simp
  | a :: l, 0 => rfl
  | a :: l, i + 1 => by
    show f a :: (l.map f).eraseIdx i = f a :: (l.eraseIdx i).map f
    rw [erase_map f l i]
def rRemoveT : V → List V → Hp → VK → Prop := fun x vs H Q => ∃ l a ts js q j, x = .ref l ∧ vs = [.ref a] ∧ H l = some (.lst (ts.map V.ref)) ∧ Prs H ts js ∧ H a = some (tup2 q) ∧ js[j]? = some q ∧ (∀ (m : Nat) p, m < j → js[m]? = some p → p ≠ q) ∧
  Q .non (upd H l (.lst ((ts.eraseIdx j).map V.ref)))
theorem mt_removeT {k : Nat} (hr : Room k X.A) : MtM X "list.remove" rRemoveT := by
  intro pins s σ H x vs v us Q I rx rv h
  obtain ⟨l, a, ts, js, q, j, rfl, rfl, hH, P, ha, hj, hno, hq⟩ := h
  cases rx
  obtain ⟨u, rfl, ru⟩ := rv.one
  cases ru
  obtain ⟨z, its, n, r, hl, e⟩ := I.lstM hH
  have ei := refs_vals r
  subst ei
  have hjl : j < js.length := (List.getElem?_eq_some_iff.mp hj).1
  have hjt : j < ts.length := by rw [P.len]; exact hjl
  have at_ : ∀ m (hm : m < (ts.map Value.ref).toArray.size), ∃ p, js[m]? = some p ∧ isPr H q (ts.map Value.ref).toArray[m] = decide (p = q) := fun m hm => by
    have hm' : m < ts.length := by simpa using hm
    obtain ⟨p, e1, e2⟩ := P.at_ m ts[m] (List.getElem?_eq_getElem hm')
    refine ⟨p, e1, ?_⟩
    have e3 : (ts.map Value.ref).toArray[m] = Value.ref ts[m] := by simp
    rw [e3]
    exact isPr_of e2
  refine call_meets F.slot_list_remove ⟨_, e, rfl⟩ F.entry_list_remove (F.args_list_remove_2 _ _)
    (remove_all l (ts.map Value.ref).toArray n (.ref a) (isPr H q) j (by simpa using hjt) ?_ ?_ (by rw [List.size_toArray, ← hl]; exact z)) ⟨e, fun y hy => ?_, ?_⟩
  · obtain ⟨p, e1, e2⟩ := at_ j (by simpa using hjt)
    rw [hj] at e1
    cases e1
    rw [e2]
    exact decide_eq_true rfl
  · intro m hm hmj
    obtain ⟨p, e1, e2⟩ := at_ m hm
    rw [e2]
    exact decide_eq_false (hno m p hmj e1)
  · obtain ⟨b, hb, rfl⟩ := List.mem_map.mp (show y ∈ ts.map Value.ref by simpa using hy)
    obtain ⟨i, hi⟩ := List.getElem?_of_mem hb
    obtain ⟨p', _, h'⟩ := P.at_ i b hi
    rw [isPr_of h']
    exact eqAt2 hr I h' ha
  · refine ⟨.non, _, I.lset (its' := (ts.map Value.ref).eraseIdx j) hH e ?_ ?_ ?_, rfl, hq⟩
    · show (ts.map Value.ref).toArray.eraseIdxIfInBounds j = ((ts.map Value.ref).eraseIdx j).toArray
      rw [List.eraseIdxIfInBounds_toArray]
    · have := r.eraseIdx j
      rw [erase_map] at this
      exact this
    · have := len_erase (ts.map V.ref) j
      rw [erase_map] at this
      omega
/-! ### list(range(n)) -/
theorem call_rng : CallR X (.type "range") (fun xs H Q => ∃ n : Nat, xs = [.int n] ∧ ∀ p, H p = none → Q (.ref p) (upd H p (.rng 0 n))) := by
  intro pins s σ H xs us Q I r h
  obtain ⟨n, rfl, q⟩ := h
  obtain ⟨u, rfl, t, rfl⟩ := vals1 r
  refine call_range_1 ⟨.ref s.heap.objs.size, _, I.laid (o := .rng 0 n) (fun b o e => Heap.get?_push_of_some _ e) (Nat.le_refl _) ?_, rfl, q _ (I.hok.fresh (Nat.le_refl _))⟩
  exact ⟨_, _, _, Heap.get?_push_size _ rfl⟩
theorem vals_of_items : ∀ (n k : Nat) (us : List Value), us.length = n → (∀ (j : Nat) v, us[j]? = some v → ∃ t, v = Value.int (((k + j : Nat) : Int)) t) → Vals ((List.range' k n).map fun (i : Nat) => V.int i) us
  | 0, k, us, hl, _ => by
    have : us = [] := List.length_eq_zero_iff.mp hl
    subst this
    exact .nil
  | n + 1, k, [], hl, _ => absurd hl (by simp)
  | n + 1, k, u :: us, hl, h => by
    rw [List.range'_succ, List.map_cons]
    refine .cons ?_ (vals_of_items n (k + 1) us (by simpa using hl) fun j v e => ?_)
    · obtain ⟨t, e⟩ := h 0 u rfl
      exact ⟨t, e⟩
    · obtain ⟨t, e⟩ := h (j + 1) v e
      exact ⟨t, by rw [e, show k + (j + 1) = k + 1 + j by omega]⟩
theorem call_list_rng (hc : X.calm = true) : CallR X (.type "list") (fun xs H Q => ∃ (p : Addr) (n : Nat), xs = [.ref p] ∧ H p = some (.rng 0 n) ∧ n ≤ 1000000 ∧ ∀ l, H l = none → Q (.ref l) (upd H l (.lst ((List.range n).map fun (i : Nat) => V.int i)))) := by
  intro pins s σ H xs us Q I r h
  obtain ⟨p, n, rfl, hp, hn, q⟩ := h
  obtain ⟨u, rfl, ru⟩ := vals1 r
  cases ru
  obtain ⟨t, u, v, e⟩ := I.hok p _ hp
  refine call_list_range (n := n) (I.ok.hd hc) e (small_one (by omega) (by omega) (by omega) (by omega)) (by rw [rangeSize_one]; split <;> omega) (Nat.le_trans hn (by decide)) fun h' tk acc c' kp e' hi => ?_
  refine ⟨.ref s.heap.objs.size, _, I.laid (o := .lst ((List.range n).map fun (i : Nat) => V.int i)) kp (Nat.le_refl _) ⟨?_, acc.toList, c', ?_, by simpa using e'⟩, rfl, q _ (I.hok.fresh (Nat.le_refl _))⟩
  · rw [List.length_map, List.length_range]
    exact Nat.le_trans hn (by decide)
  · rw [List.range_eq_range']
    refine vals_of_items n 0 acc.toList (by simpa using hi.1) fun j v e => ?_
    obtain ⟨t, e2⟩ := hi.2 j v (by simpa using e)
    exact ⟨t, by rw [e2]; congr 1; simp⟩
end
/-! ### zip of a list and a tuple of one length -/
section
variable {prog : Program} {w : World} {A : Around} {E : Value → Shared → Prop} {s : Shared}
theorem nextOf_tup {it l : Addr} {i : Nat} {items : Array Value} {x : Value} {Q : Value → Shared → Prop} (hit : s.heap.IsTupleIter it l i) (hl : s.heap.IsTuple l items) (hx : items[i]? = some x)
    (hQ : ∀ h', h'.IsTupleIter it l (i + 1) → Heap.SameBut it s.heap h' → Q x { s with heap := h' }) : wpAny (model prog w) A (Builtin.SmallTypes.nextOf (.ref it)) Q E s := by
  obtain ⟨o, ho, hc, hd⟩ := id hit
  obtain ⟨ol, hol, _, nl, hdl⟩ := hl
  unfold Builtin.SmallTypes.nextOf
  refine wpAny_bind (wpAny_callSpecial?_slot (name := Str.ofString "__next__") hit.typeIs F.slot_tuple_iterator_next
    (wpAny_call_entry F.slot_tuple_iterator_next hit.typeIs F.entry_tuple_iterator_next ?_ (F.args_tuple_iterator_next_1 _)))
  show wpAny _ _ (field (.ref it) 0 >>= _) _ _ s
  refine wpAny_bind (wpAny_field ho hd (x := .ref l) rfl ?_)
  show wpAny _ _ (if (Value.ref l == Value.none) = true then _ else _) _ _ s
  rw [if_neg (show ¬ ((Value.ref l == Value.none) = true) from Bool.false_ne_true)]
  show wpAny _ _ (field (.ref it) 1 >>= _) _ _ s
  refine wpAny_bind (wpAny_field ho hd (x := .int i 0) rfl ?_)
  show wpAny _ _ (seqItems? (.ref l) >>= _) _ _ s
  refine wpAny_bind (wpAny_seqItems hol hdl ?_)
  simp only [Int.toNat_natCast, hx]
  refine wpAny_bind (wpAny_setField ho hd (by simp) (wpAny_pure ⟨x, rfl, wpAny_pure (hQ _ ?_ (Heap.SameBut.update ..))⟩))
  exact ⟨_, Heap.get?_update_self _ ho (Obj.isFreed_of_fields (Obj.data_mapFields hd _)), (Obj.cls_mapFields ..).trans hc, by
    rw [Obj.data_mapFields hd]; simp [rawInt]⟩
/-- the addresses of a zip's objects -/
structure ZA (z TI TO i1 i2 l1 l2 : Addr) : Prop where
  a1 : TI ≠ z
  a2 : TO ≠ z
  a3 : i1 ≠ z
  a4 : i2 ≠ z
  a5 : TI ≠ TO
  a6 : TI ≠ i1
  a7 : TI ≠ i2
  a8 : TO ≠ i1
  a9 : TO ≠ i2
  b1 : i1 ≠ i2
  b2 : l1 ≠ z
  b5 : l2 ≠ z
  b6 : l2 ≠ TO
  b7 : l2 ≠ i1
theorem za_new {n a b : Nat} (la : a < n) (lb : b < n) : ZA (n + 4) (n + 2) (n + 3) n (n + 1) a b := by
  constructor <;> (intro (q : (_ : Nat) = (_ : Nat)); omega)
theorem zt_item {z TI TO i1 i2 l1 l2 : Addr} {k1 k2 : Nat} {xs ys : Array Value} {x y a b : Value} {Q : Value → Shared → Prop} (D : ZA z TI TO i1 i2 l1 l2)
    (hz : IsZip s.heap z TI TO .none) (hI : IsPair s.heap TI (.ref i1) (.ref i2)) (hO : IsPair s.heap TO a b)
    (h1 : s.heap.IsListIter i1 l1 k1) (h2 : s.heap.IsTupleIter i2 l2 k2) (p1 : s.heap.IsList l1 xs) (p2 : s.heap.IsTuple l2 ys) (hx : xs[k1]? = some x) (hy : ys[k2]? = some y)
    (hQ : ∀ h', IsZip h' z TI TO (rawInt s.heap.objs.size) → IsPair h' TO x y → h'.IsListIter i1 l1 (k1 + 1) → h'.IsTupleIter i2 l2 (k2 + 1) → IsPair h' s.heap.objs.size x y → h'.objs.size = s.heap.objs.size + 1 →
      (∀ c o, c ≠ z → c ≠ TO → c ≠ i1 → c ≠ i2 → s.heap.get? c = some o → h'.get? c = some o) → Q (.ref s.heap.objs.size) { s with heap := h' }) :
    wpAny (model prog w) A (Builtin.«zip.__next__» ⟨[.ref z], []⟩) (fun fin s' => ∃ v, fin = .done (.ret v) ∧ Q v s') E s := by
  show wpAny _ _ (field (.ref z) 2 >>= _) _ _ _
  refine wpAny_bind (wpAny_field hz rfl (x := .bool false) rfl ?_)
  show wpAny _ _ (field (.ref z) 3 >>= _) _ _ _
  refine wpAny_bind (wpAny_field hz rfl (x := .ref TI) rfl (wpAny_bind (wpAny_seqItems hI rfl ?_)))
  show wpAny _ _ (Builtin.SmallTypes.ownedTupleIsFree (.ref z) >>= _) _ _ _
  refine wpAny_bind ?_
  unfold Builtin.SmallTypes.ownedTupleIsFree
  refine wpAny_bind (wpAny_field hz rfl (x := .none) rfl (wpAny_pure ?_))
  simp only [if_true]
  refine wpAny_bind (wpAny_rule (wpAny_bind (wpAny_field hz rfl (x := .ref TO) rfl (wpAny_bind (wpAny_setField_rec hz (by simp) fun g1 z1 s1 => ?_)))))
  replace z1 : IsZip g1 z TI TO .ellipsis := z1
  refine wpAny_bind ?_
  simp only [List.zipIdx_cons, List.zipIdx_nil, List.forIn_cons, List.forIn_nil]
  refine wpAny_bind (wpAny_bind (wpAny_onRaise ?_))
  show wpAny _ _ (Builtin.SmallTypes.nextOf (.ref i1) >>= _) _ _ _
  refine wpAny_bind (wpAny_nextOf_list_item (h1.extBut s1.extBut D.a3) (p1.extBut s1.extBut D.b2) hx fun g2 q1 s2 => wpAny_pure ?_)
  have o2 : IsPair g2 TO a b := s2.extBut _ _ D.a8 (s1.extBut _ _ D.a2 hO)
  refine wpAny_bind (wpAny_seqItems o2 rfl (wpAny_bind (wpAny_updateSeq_pair o2 fun g3 o3 s3 => ?_)))
  replace o3 : IsPair g3 TO x b := o3
  refine wpAny_bind (wpAny_letGo (wpAny_pure ?_))
  refine wpAny_bind (wpAny_bind (wpAny_onRaise ?_))
  show wpAny _ _ (Builtin.SmallTypes.nextOf (.ref i2) >>= _) _ _ _
  refine wpAny_bind (nextOf_tup (((h2.extBut s1.extBut D.a4).extBut s2.extBut D.b1.symm).extBut s3.extBut D.a9.symm) (((p2.extBut s1.extBut D.b5).extBut s2.extBut D.b7).extBut s3.extBut D.b6) hy fun g4 q2 s4 => wpAny_pure ?_)
  have o4 : IsPair g4 TO x b := s4.extBut _ _ D.a9 o3
  refine wpAny_bind (wpAny_seqItems o4 rfl (wpAny_bind (wpAny_updateSeq_pair o4 fun g5 o5 s5 => ?_)))
  replace o5 : IsPair g5 TO x y := o5
  refine wpAny_bind (wpAny_letGo (wpAny_pure (wpAny_pure ?_)))
  refine wpAny_bind (wpAny_seqItems o5 rfl (wpAny_bind (wpAny_newTuple ?_)))
  have sz : g5.objs.size = s.heap.objs.size := by rw [s5.1, s4.1, s3.1, s2.1, s1.1]
  have z5 : IsZip g5 z TI TO .ellipsis := s5.extBut _ _ D.a2.symm (s4.extBut _ _ D.a4.symm (s3.extBut _ _ D.a2.symm (s2.extBut _ _ D.a3.symm z1)))
  have k5 : ∀ c o, c ≠ z → c ≠ TO → c ≠ i1 → c ≠ i2 → s.heap.get? c = some o → g5.get? c = some o := fun c o c1 c2 c3 c4 e =>
    s5.extBut _ _ c2 (s4.extBut _ _ c4 (s3.extBut _ _ c2 (s2.extBut _ _ c3 (s1.extBut _ _ c1 e))))
  have j1 : g5.IsListIter i1 l1 (k1 + 1) := ((q1.extBut s3.extBut D.a8.symm).extBut s4.extBut D.b1).extBut s5.extBut D.a8.symm
  have j2 : g5.IsTupleIter i2 l2 (k2 + 1) := q2.extBut s5.extBut D.a9.symm
  have zl : z < g5.objs.size := Heap.lt_size z5
  show wpAny _ _ (Builtin.SmallTypes.ownedTupleHandOut (.ref z) (.ref g5.objs.size) >>= _) _ _ _
  refine wpAny_bind ?_
  unfold Builtin.SmallTypes.ownedTupleHandOut
  have z6 : IsZip (g5.push { cls := .type "tuple", data := .seq #[x, y] }) z TI TO .ellipsis := Heap.get?_push_of_some _ z5
  refine wpAny_bind (wpAny_setField_rec z6 (by simp) fun g7 z7 s7 => ?_)
  replace z7 : IsZip g7 z TI TO (rawInt g5.objs.size) := z7
  refine wpAny_setField_rec z7 (by simp) fun g8 z8 s8 => ?_
  replace z8 : IsZip g8 z TI TO (rawInt g5.objs.size) := z8
  have up : ∀ c o, c ≠ z → g5.get? c = some o → g8.get? c = some o := fun c o c1 e => s8.extBut _ _ c1 (s7.extBut _ _ c1 (Heap.get?_push_of_some _ e))
  have t8 : IsPair g8 g5.objs.size x y := s8.extBut _ _ (Nat.ne_of_gt zl) (s7.extBut _ _ (Nat.ne_of_gt zl) (Heap.get?_push_size _ rfl))
  have n8 : g8.objs.size = g5.objs.size + 1 := by rw [s8.1, s7.1, Heap.size_push]
  rw [sz] at z8 t8 n8
  refine wpAny_pure ⟨_, rfl, ?_⟩
  show Q (.ref g5.objs.size) _
  rw [sz]
  obtain ⟨o1, e1, r1⟩ := j1
  obtain ⟨o2', e2, r2⟩ := j2
  exact hQ g8 z8 (up _ _ D.a2 o5) ⟨o1, up _ _ D.a3 e1, r1⟩ ⟨o2', up _ _ D.a4 e2, r2⟩ t8 n8 fun c o c1 c2 c3 c4 e => up c o c1 (k5 c o c1 c2 c3 c4 e)
theorem zt_end {z TI TO i1 i2 l1 l2 : Addr} {k1 : Nat} {xs : Array Value} {a b : Value} {Q : Fin → Shared → Prop} (hh : A.handled = none) (D : ZA z TI TO i1 i2 l1 l2)
    (hz : IsZip s.heap z TI TO .none) (hI : IsPair s.heap TI (.ref i1) (.ref i2)) (hO : IsPair s.heap TO a b) (h1 : s.heap.IsListIter i1 l1 k1) (p1 : s.heap.IsList l1 xs) (hx : xs[k1]? = none)
    (hE : ∀ h' e, (∀ c o, c ≠ z → c ≠ i1 → s.heap.get? c = some o → h'.get? c = some o) → (∃ o, h'.get? e = some o ∧ o.cls = .type "StopIteration") → E (.ref e) { s with heap := h' }) :
    wpAny (model prog w) A (Builtin.«zip.__next__» ⟨[.ref z], []⟩) Q E s := by
  show wpAny _ _ (field (.ref z) 2 >>= _) _ _ _
  refine wpAny_bind (wpAny_field hz rfl (x := .bool false) rfl ?_)
  show wpAny _ _ (field (.ref z) 3 >>= _) _ _ _
  refine wpAny_bind (wpAny_field hz rfl (x := .ref TI) rfl (wpAny_bind (wpAny_seqItems hI rfl ?_)))
  show wpAny _ _ (Builtin.SmallTypes.ownedTupleIsFree (.ref z) >>= _) _ _ _
  refine wpAny_bind ?_
  unfold Builtin.SmallTypes.ownedTupleIsFree
  refine wpAny_bind (wpAny_field hz rfl (x := .none) rfl (wpAny_pure ?_))
  simp only [if_true]
  refine wpAny_bind (wpAny_rule (wpAny_bind (wpAny_field hz rfl (x := .ref TO) rfl (wpAny_bind (wpAny_setField_rec hz (by simp) fun g1 z1 s1 => ?_)))))
  replace z1 : IsZip g1 z TI TO .ellipsis := z1
  refine wpAny_bind ?_
  simp only [List.zipIdx_cons, List.zipIdx_nil, List.forIn_cons, List.forIn_nil]
  refine wpAny_bind (wpAny_bind (wpAny_onRaise ?_))
  show wpAny _ _ (Builtin.SmallTypes.nextOf (.ref i1) >>= _) _ _ _
  refine wpAny_bind (wpAny_nextOf_list_end hh (h1.extBut s1.extBut D.a3) (p1.extBut s1.extBut D.b2) hx fun g2 e s2 he => ?_)
  obtain ⟨oe, hoe, hce⟩ := he
  have z2 : IsZip g2 z TI TO .ellipsis := s2 _ _ D.a3.symm z1
  have ez : e ≠ z := fun q => by subst q; rw [z2] at hoe; cases hoe; simp at hce
  exact wpAny_setField_rec z2 (by simp) fun g3 _ s3 => hE g3 e (fun c o c1 c3 q => s3.extBut _ _ c1 (s2 _ _ c3 (s1.extBut _ _ c1 q))) ⟨oe, s3.extBut _ _ ez hoe, hce⟩
theorem zt_next {z TI TO i1 i2 l1 l2 : Addr} {k1 k2 : Nat} {xs ys : Array Value} {x y a b : Value} {Q : Option Value → Shared → Prop} (D : ZA z TI TO i1 i2 l1 l2)
    (hz : IsZip s.heap z TI TO .none) (hI : IsPair s.heap TI (.ref i1) (.ref i2)) (hO : IsPair s.heap TO a b)
    (h1 : s.heap.IsListIter i1 l1 k1) (h2 : s.heap.IsTupleIter i2 l2 k2) (p1 : s.heap.IsList l1 xs) (p2 : s.heap.IsTuple l2 ys) (hx : xs[k1]? = some x) (hy : ys[k2]? = some y)
    (hQ : ∀ h', IsZip h' z TI TO (rawInt s.heap.objs.size) → IsPair h' TO x y → h'.IsListIter i1 l1 (k1 + 1) → h'.IsTupleIter i2 l2 (k2 + 1) → IsPair h' s.heap.objs.size x y → h'.objs.size = s.heap.objs.size + 1 →
      (∀ c o, c ≠ z → c ≠ TO → c ≠ i1 → c ≠ i2 → s.heap.get? c = some o → h'.get? c = some o) → Q (some (.ref s.heap.objs.size)) { s with heap := h' }) : wpAny (model prog w) A (pyNext (.ref z)) Q E s := by
  have hT : s.TypeIs (.ref z) "zip" := ⟨_, hz, rfl⟩
  unfold pyNext
  exact wpAny_bind (wpAny_attempt (wpAny_callSpecial?_slot (name := Str.ofString "__next__") hT F.slot_zip_next
    (wpAny_call_entry F.slot_zip_next hT F.entry_zip_next (zt_item D hz hI hO h1 h2 p1 p2 hx hy fun h' c1 c2 c3 c4 c5 c6 c7 => wpAny_pure (hQ h' c1 c2 c3 c4 c5 c6 c7)) (F.args_zip_next_1 _))))
theorem zt_stop {z TI TO i1 i2 l1 l2 : Addr} {k1 : Nat} {xs : Array Value} {a b : Value} {Q : Option Value → Shared → Prop} (hh : A.handled = none) (D : ZA z TI TO i1 i2 l1 l2)
    (hz : IsZip s.heap z TI TO .none) (hI : IsPair s.heap TI (.ref i1) (.ref i2)) (hO : IsPair s.heap TO a b) (h1 : s.heap.IsListIter i1 l1 k1) (p1 : s.heap.IsList l1 xs) (hx : xs[k1]? = none)
    (hQ : ∀ h', (∀ c o, c ≠ z → c ≠ i1 → s.heap.get? c = some o → h'.get? c = some o) → Q none { s with heap := h' }) : wpAny (model prog w) A (pyNext (.ref z)) Q E s := by
  have hT : s.TypeIs (.ref z) "zip" := ⟨_, hz, rfl⟩
  unfold pyNext
  refine wpAny_bind (wpAny_attempt (wpAny_callSpecial?_slot (name := Str.ofString "__next__") hT F.slot_zip_next
    (wpAny_call_entry F.slot_zip_next hT F.entry_zip_next (zt_end hh D hz hI hO h1 p1 hx fun h' e hk he => ?_) (F.args_zip_next_1 _))))
  obtain ⟨o, ho, hc⟩ := he
  exact wpAny_bind (wpAny_isInstance (T := "StopIteration") (b := true) ⟨o, ho, hc⟩ isSubtype_stop (wpAny_pure (hQ _ hk)))
end
abbrev zt1 (h : Heap) (l1 : Addr) : Heap := h.push { cls := .type "list_iterator", data := .fields #[.ref l1, .int 0 0] }
abbrev zt2 (h : Heap) (l1 l2 : Addr) : Heap := (zt1 h l1).push { cls := .type "tuple_iterator", data := .fields #[.ref l2, .int 0 0] }
abbrev zt3 (h : Heap) (l1 l2 : Addr) : Heap := (zt2 h l1 l2).push { cls := .type "tuple", data := .seq #[.ref h.objs.size, .ref (zt1 h l1).objs.size] }
abbrev zt4 (h : Heap) (l1 l2 : Addr) : Heap := (zt3 h l1 l2).push { cls := .type "tuple", data := .seq #[.none, .none] }
abbrev zt5 (h : Heap) (l1 l2 : Addr) : Heap := (zt4 h l1 l2).push { cls := .type "zip", data := .fields #[.none, .bool false, .bool false, .ref (zt2 h l1 l2).objs.size, .ref (zt3 h l1 l2).objs.size] }
theorem zt_new (l1 l2 : Addr) (xs ys : Array Value) :
    Meets (Builtin.«zip.__new__» ⟨[.type "zip", .ref l1, .ref l2], []⟩) (fun _ R s => s.heap.IsList l1 xs ∧ s.heap.IsTuple l2 ys ∧ R (.ok (.ret (.ref (zt4 s.heap l1 l2).objs.size))) { s with heap := zt5 s.heap l1 l2 }) :=
  .of_wp fun prog w A R s h => by
    obtain ⟨hp, g, d, tk, os⟩ := s
    obtain ⟨p1, p2, h⟩ := h
    have hsub := sub_zip
    have q1 : Heap.IsList (Shared.heap ⟨hp, g, d, tk, os⟩) l1 xs := p1
    have q2 : Heap.IsTuple (Shared.heap ⟨hp.push { cls := .type "list_iterator", data := .fields #[.ref l1, .int 0 0] }, g, d, tk, os⟩) l2 ys := Heap.IsTuple.push p2 _
    wp_walk using wpAny_pyIter_list q1, wpAny_pyIter_tuple q2
    exact ⟨_, rfl, h⟩
theorem zt_call {prog : Program} {w : World} {A : Around} {E : Value → Shared → Prop} {s : Shared} {l1 l2 : Addr} {xs ys : Array Value} {Q : Value → Shared → Prop} (p1 : s.heap.IsList l1 xs) (p2 : s.heap.IsTuple l2 ys)
    (h : ∀ h', IsZip h' (s.heap.objs.size + 4) (s.heap.objs.size + 2) (s.heap.objs.size + 3) .none → IsPair h' (s.heap.objs.size + 2) (.ref s.heap.objs.size) (.ref (s.heap.objs.size + 1)) →
      IsPair h' (s.heap.objs.size + 3) .none .none → h'.IsListIter s.heap.objs.size l1 0 → h'.IsTupleIter (s.heap.objs.size + 1) l2 0 → (∀ c o, s.heap.get? c = some o → h'.get? c = some o) → Q (.ref (s.heap.objs.size + 4)) { s with heap := h' }) :
    wpAny (model prog w) A (call (.type "zip") [.ref l1, .ref l2]) Q E s := by
  refine callType_new F.called_zip (by decide) (F.typeCall_zip_2 _ _) (F.newCall_zip_2 _ _) (fun obj => F.args_object_init_3 obj _ _) F.entry_zip_new (zt_new l1 l2 xs ys) ⟨p1, p2, ?_⟩
  have z1 : (zt1 s.heap l1).objs.size = s.heap.objs.size + 1 := Heap.size_push ..
  have z2 : (zt2 s.heap l1 l2).objs.size = s.heap.objs.size + 2 := by rw [Heap.size_push, z1]
  have z3 : (zt3 s.heap l1 l2).objs.size = s.heap.objs.size + 3 := by rw [Heap.size_push, z2]
  have z4 : (zt4 s.heap l1 l2).objs.size = s.heap.objs.size + 4 := by rw [Heap.size_push, z3]
  have g5 : (zt5 s.heap l1 l2).get? (zt4 s.heap l1 l2).objs.size = some _ := Heap.get?_push_size _ rfl
  have g4 : (zt5 s.heap l1 l2).get? (zt3 s.heap l1 l2).objs.size = some _ := Heap.get?_push_of_some _ (Heap.get?_push_size _ rfl)
  have g3 : (zt5 s.heap l1 l2).get? (zt2 s.heap l1 l2).objs.size = some _ := Heap.get?_push_of_some _ (Heap.get?_push_of_some _ (Heap.get?_push_size _ rfl))
  have g2 : (zt5 s.heap l1 l2).get? (zt1 s.heap l1).objs.size = some _ := Heap.get?_push_of_some _ (Heap.get?_push_of_some _ (Heap.get?_push_of_some _ (Heap.get?_push_size _ rfl)))
  have g1 : (zt5 s.heap l1 l2).get? s.heap.objs.size = some _ := Heap.get?_push_of_some _ (Heap.get?_push_of_some _ (Heap.get?_push_of_some _ (Heap.get?_push_of_some _ (Heap.get?_push_size _ rfl))))
  show _ ∧ _
  rw [z2, z3, z4] at g5
  rw [z1, z2] at g3
  rw [z3] at g4
  rw [z1] at g2
  rw [z4]
  exact ⟨⟨_, g5, rfl⟩, h _ g5 g3 g4 ⟨_, g1, rfl, rfl⟩ ⟨_, g2, rfl, rfl⟩ fun c o q => Heap.get?_push_of_some _ (Heap.get?_push_of_some _ (Heap.get?_push_of_some _ (Heap.get?_push_of_some _ (Heap.get?_push_of_some _ q))))⟩
/-- the list at a, the tuple at b (no shorter), their items in new pairs -/
def Itzt (K : PySem.W.Frag) (a b : Addr) : It :=
  ⟨fun i H => ∃ (xs ys : List V) (x y : V), SqL K H a xs ∧ SqT K H b ys ∧ xs[i]? = some x ∧ ys[i]? = some y,
    fun i H v H' => ∃ T x y, v = .ref T ∧ H T = none ∧ H' = upd H T (.tup [x, y]) ∧ (∀ xs, SqL K H a xs → xs[i]? = some x) ∧ ∀ ys, SqT K H b ys → ys[i]? = some y,
    fun i H => ∃ xs : List V, SqL K H a xs ∧ xs.length ≤ i⟩
theorem turn_zt {P : Program} {w : World} {K : PySem.W.Frag} {elts : List Expr} {kk : Nat} {tpos : Pos} {a b z TI TO i1 i2 : Addr} (D : ZA z TI TO i1 i2 a b) :
    Turn P w K (.Tuple elts kk tpos) (Itzt K a b) [z, TI, TO, i1, i2] z (fun i h => IsZip h z TI TO .none ∧ IsPair h TI (.ref i1) (.ref i2) ∧ (∃ x y, IsPair h TO x y) ∧ h.IsListIter i1 a i ∧ h.IsTupleIter i2 b i) where
  mem := by simp
  obj := fun i h st c hc => by
    obtain ⟨hz, hI, ⟨x, y, hO⟩, ⟨o1, e1, _, d1⟩, ⟨o2, e2, _, d2⟩⟩ := st
    have e' : c = z ∨ c = TI ∨ c = TO ∨ c = i1 ∨ c = i2 := by simpa using hc
    rcases e' with q | q | q | q | q
    · rw [q]; exact ⟨_, hz, fun v q => nomatch q⟩
    · rw [q]; exact ⟨_, hI, fun v q => nomatch q⟩
    · rw [q]; exact ⟨_, hO, fun v q => nomatch q⟩
    · rw [q]; exact ⟨o1, e1, fun v q => by rw [d1] at q; cases q⟩
    · rw [q]; exact ⟨o2, e2, fun v q => by rw [d2] at q; cases q⟩
  keep := fun i h h' st k => by
    obtain ⟨hz, hI, ⟨x, y, hO⟩, ⟨o1, e1, r1⟩, ⟨o2, e2, r2⟩⟩ := st
    exact ⟨k z (by simp) _ hz, k TI (by simp) _ hI, ⟨x, y, k TO (by simp) _ hO⟩, ⟨o1, k i1 (by simp) _ e1, r1⟩, ⟨o2, k i2 (by simp) _ e2, r2⟩⟩
  item := by
    intro X hP hw hK hc i pins s σ H E I hf st hg
    subst hP hw hK
    obtain ⟨hz, hI, ⟨x0, y0, hO⟩, h1, h2⟩ := st
    obtain ⟨xs, ys, x, y, hqx, hqy, hx, hy⟩ := hg
    obtain ⟨its, rv, p, _⟩ := I.list hqx
    obtain ⟨its2, rv2, p2, _⟩ := I.tuple hqy
    obtain ⟨u, hu, ru⟩ := rv.get hx
    obtain ⟨u2, hu2, ru2⟩ := rv2.get hy
    have hzl : z < s.heap.objs.size := Heap.lt_size hz
    refine zt_next D hz hI hO h1 h2 p.isList (show s.heap.IsTuple b its2.toArray from p2) (x := u) (y := u2) (by simpa using hu) (by simpa using hu2) fun h' z' O' h1' h2' hT hsz hk => ?_
    refine ⟨_, rfl, wpAny_letOwnedTupleGo_zip (s := { s with heap := h' }) z' fun h'' z'' sb => ?_⟩
    have hT2 : h''.get? s.heap.objs.size = some { cls := .type "tuple", data := .seq #[u, u2] } := (sb.2 _ (Nat.ne_of_gt hzl)).trans hT
    have new : ObjOk X.prog X.w (upd H s.heap.objs.size (.tup [x, y])) h'' s.heap.objs.size (.tup [x, y]) :=
      ⟨by show 2 ≤ sizeLine; decide, [u, u2], .cons ru (.cons ru2 .nil), ⟨_, hT2, rfl, _, rfl⟩⟩
    have I1 : Inv X pins σ (upd H s.heap.objs.size (.tup [x, y])) { s with heap := h'' } :=
      I.turnedNew (t' := s.toks) (ch := [z, TI, TO, i1, i2]) (fun c o hb q => (sb.2 c (fun q' => hb (by simp [q']))).trans (hk c o (fun q' => hb (by simp [q'])) (fun q' => hb (by simp [q'])) (fun q' => hb (by simp [q'])) (fun q' => hb (by simp [q'])) q)) hf (Nat.le_refl _) new
    obtain ⟨o1, e1, r1⟩ := h1'
    obtain ⟨o2, e2, r2⟩ := h2'
    refine ⟨.ref s.heap.objs.size, _, I1, rfl, ⟨_, x, y, rfl, I.hok.fresh (Nat.le_refl _), rfl, fun l hl => by rw [I.list_inj hl hqx]; exact hx, fun l hl => by rw [I.tuple_inj hl hqy]; exact hy⟩, ⟨z'', ?_, ⟨u, u2, ?_⟩, ⟨o1, ?_, r1⟩, ⟨o2, ?_, r2⟩⟩, fun c hcm => ?_⟩
    · exact (sb.2 _ D.a1).trans (hk _ _ D.a1 D.a5 D.a6 D.a7 hI)
    · exact (sb.2 _ D.a2).trans O'
    · exact (sb.2 _ D.a3).trans e1
    · exact (sb.2 _ D.a4).trans e2
    · have hlt : c < s.heap.objs.size := by
        have e' : c = z ∨ c = TI ∨ c = TO ∨ c = i1 ∨ c = i2 := by simpa using hcm
        rcases e' with q | q | q | q | q
        · rw [q]; exact hzl
        · rw [q]; exact Heap.lt_size hI
        · rw [q]; exact Heap.lt_size hO
        · rw [q]; obtain ⟨_, e1, _⟩ := h1; exact Heap.lt_size e1
        · rw [q]; obtain ⟨_, e2, _⟩ := h2; exact Heap.lt_size e2
      rw [upd_ne (Nat.ne_of_lt hlt)]
      exact (hf c hcm).1
  done := by
    intro X hP hw hK hc i pins s σ H E I hf st hg
    subst hP hw hK
    obtain ⟨hz, hI, ⟨x0, y0, hO⟩, h1, h2⟩ := st
    obtain ⟨xs, hqx, hend⟩ := hg
    obtain ⟨its, rv, p, _⟩ := I.list hqx
    have l1 := rv.length
    exact zt_stop (I.ok.hd hc) D hz hI hO h1 p.isList (by simp; omega) fun h' hk => ⟨rfl, I.turnedL (t' := s.toks) (ch := [z, TI, TO, i1, i2]) (fun c o hb q => hk c o (fun q' => hb (by simp [q'])) (fun q' => hb (by simp [q'])) q) hf⟩
  self := fun A i s Q E st h => wpAny_pyIter_zip st.1 h
def iZipT (K : PySem.W.Frag) (ta : TA) : TI := fun σ H R => ta σ H fun vs H1 => ∃ a b xs ys, vs = [.ref a, .ref b] ∧ SqL K H1 a xs ∧ SqT K H1 b ys ∧ R (Itzt K a b) H1
theorem pi_zipT {X : Cx} {e e2 : Expr} {ta : TA} {p pos tpos : Pos} {elts : List Expr} {kk : Nat} (hg : Gl X "zip") (hm : X.mg "zip" = none) (ha : PA X [e, e2] ta) (hn : noStar [e, e2] = true := by rfl) :
    PI X (.Tuple elts kk tpos) (.Call (.Name "zip" p) [e, e2] [] pos) (iZipT X.K ta) := by
  intro pins s σ H R I h
  refine Call_ (ld_blt I hg hm boot_zip5 (PyProof.Rows.callWith_type1 (thn (ha pos pins s σ H _ I h) fun us s1 ⟨vs, H1, I1, r1, q1⟩ => ?_) (starEach_one (noStar_head hn).1) (noStar_any (noStar_head hn).2)))
  obtain ⟨a, b, xs, ys, ex, hqx, hqy, q⟩ := q1
  subst ex
  obtain ⟨u1, u2, rfl, ra, rb⟩ := r1.two
  cases ra
  cases rb
  obtain ⟨its, rv, p1, _⟩ := I1.list hqx
  obtain ⟨its2, rv2, p2, _⟩ := I1.tuple hqy
  have la : a < s1.heap.objs.size := p1.lt
  have lb : b < s1.heap.objs.size := let ⟨_, e, _⟩ := p2; Heap.lt_size e
  refine zt_call p1.isList (show s1.heap.IsTuple b its2.toArray from p2) fun h' hz hI hO h1 h2 hk => wpAny_pyIter_zip hz ?_
  have I2 : Inv X pins σ H1 { s1 with heap := h' } := I1.kept (t' := s1.toks) hk
  have ap : ZA (s1.heap.objs.size + 4) (s1.heap.objs.size + 2) (s1.heap.objs.size + 3) s1.heap.objs.size (s1.heap.objs.size + 1) a b := za_new la lb
  refine ⟨s1.heap.objs.size + 4, [s1.heap.objs.size + 4, s1.heap.objs.size + 2, s1.heap.objs.size + 3, s1.heap.objs.size, s1.heap.objs.size + 1], _, _, H1, rfl, I2, turn_zt ap, ⟨hz, hI, ⟨_, _, hO⟩, h1, h2⟩, fun c hcm => ?_, q⟩
  have e' : c = s1.heap.objs.size + 4 ∨ c = s1.heap.objs.size + 2 ∨ c = s1.heap.objs.size + 3 ∨ c = s1.heap.objs.size ∨ c = s1.heap.objs.size + 1 := by simpa using hcm
  have hle : s1.heap.objs.size ≤ c := by
    rcases e' with z | z | z | z | z
    · rw [z]; exact Nat.le_add_right _ _
    · rw [z]; exact Nat.le_add_right _ _
    · rw [z]; exact Nat.le_add_right _ _
    · rw [z]; exact Nat.le_refl _
    · rw [z]; exact Nat.le_add_right _ _
  exact I1.fpOk hle (I1.hok.fresh hle)
end L2

set_option Elab.async false
set_option linter.all false
set_option maxRecDepth 100000
set_option maxHeartbeats 2000000
/-! loops over zip and enumerate -/
namespace L2
open PySem PySem.Spec PyProof.Rows
theorem for_zip {K : PySem.W.Frag} {a b : Addr} {xs ys : List V} {g : TG} {tb : TS} {D : Ends} {σ : St} {H : Hp} (Pv : Nat → St → Hp → Prop) (h0 : Pv 0 σ H) (hn : xs.length = ys.length) (hl : ∀ i σ H, Pv i σ H → SqL K H a xs ∧ SqL K H b ys)
    (hs : ∀ i x y T σ H, xs[i]? = some x → ys[i]? = some y → H T = none → Pv i σ H → g (.ref T) σ (upd H T (.tup [x, y])) fun σ2 H2 => tb { D with nx := Pv (i + 1), ct := Pv (i + 1), bk := D.nx } σ2 H2) (hd : ∀ σ H, Pv xs.length σ H → D.nx σ H) :
    ∃ W : Nat → Nat → St → Hp → Prop, (∃ m, W 0 m σ H) ∧ ∀ i m σ H, W i m σ H →
      ((Itz K a b).stop i H ∧ D.nx σ H) ∨ ((Itz K a b).go i H ∧ ∃ N : St → Hp → Prop, (∀ σ' H', N σ' H' → ∃ m', m' < m ∧ W (i + 1) m' σ' H') ∧ ∀ x H', (Itz K a b).yld i H x H' → g x σ H' fun σ2 H2 => tb { D with nx := N, ct := N, bk := D.nx } σ2 H2) := by
  refine ⟨fun i m σ H => m = xs.length - i ∧ i ≤ xs.length ∧ Pv i σ H, ⟨xs.length, by simp, Nat.zero_le _, h0⟩, ?_⟩
  rintro i m σ H ⟨rfl, hi, p⟩
  obtain ⟨q1, q2⟩ := hl i σ H p
  by_cases hlt : i < xs.length
  · have hlt2 : i < ys.length := by omega
    refine .inr ⟨⟨xs, ys, xs[i], ys[i], q1, q2, by simp [hlt], by simp [hlt2]⟩, Pv (i + 1), fun σ' H' p' => ⟨xs.length - (i + 1), by omega, rfl, hlt, p'⟩, fun x H' y => ?_⟩
    obtain ⟨T, x1, y1, rfl, nT, rfl, e1, e2⟩ := y
    exact hs i x1 y1 T σ H (e1 xs q1) (e2 ys q2) nT p
  · have e : i = xs.length := by omega
    subst e
    exact .inl ⟨⟨xs, ys, q1, q2, .inl (Nat.le_refl _)⟩, hd σ H p⟩
theorem for_zipT {K : PySem.W.Frag} {a b : Addr} {xs ys : List V} {g : TG} {tb : TS} {D : Ends} {σ : St} {H : Hp} (Pv : Nat → St → Hp → Prop) (h0 : Pv 0 σ H) (hn : xs.length = ys.length) (hl : ∀ i σ H, Pv i σ H → SqL K H a xs ∧ SqT K H b ys)
    (hs : ∀ i x y T σ H, xs[i]? = some x → ys[i]? = some y → H T = none → Pv i σ H → g (.ref T) σ (upd H T (.tup [x, y])) fun σ2 H2 => tb { D with nx := Pv (i + 1), ct := Pv (i + 1), bk := D.nx } σ2 H2) (hd : ∀ σ H, Pv xs.length σ H → D.nx σ H) :
    ∃ W : Nat → Nat → St → Hp → Prop, (∃ m, W 0 m σ H) ∧ ∀ i m σ H, W i m σ H →
      ((Itzt K a b).stop i H ∧ D.nx σ H) ∨ ((Itzt K a b).go i H ∧ ∃ N : St → Hp → Prop, (∀ σ' H', N σ' H' → ∃ m', m' < m ∧ W (i + 1) m' σ' H') ∧ ∀ x H', (Itzt K a b).yld i H x H' → g x σ H' fun σ2 H2 => tb { D with nx := N, ct := N, bk := D.nx } σ2 H2) := by
  refine ⟨fun i m σ H => m = xs.length - i ∧ i ≤ xs.length ∧ Pv i σ H, ⟨xs.length, by simp, Nat.zero_le _, h0⟩, ?_⟩
  rintro i m σ H ⟨rfl, hi, p⟩
  obtain ⟨q1, q2⟩ := hl i σ H p
  by_cases hlt : i < xs.length
  · have hlt2 : i < ys.length := by omega
    refine .inr ⟨⟨xs, ys, xs[i], ys[i], q1, q2, by simp [hlt], by simp [hlt2]⟩, Pv (i + 1), fun σ' H' p' => ⟨xs.length - (i + 1), by omega, rfl, hlt, p'⟩, fun x H' y => ?_⟩
    obtain ⟨T, x1, y1, rfl, nT, rfl, e1, e2⟩ := y
    exact hs i x1 y1 T σ H (e1 xs q1) (e2 ys q2) nT p
  · have e : i = xs.length := by omega
    subst e
    exact .inl ⟨⟨xs, q1, Nat.le_refl _⟩, hd σ H p⟩
theorem for_enum {K : PySem.W.Frag} {a : Addr} {xs : List V} {g : TG} {tb : TS} {D : Ends} {σ : St} {H : Hp} (Pv : Nat → St → Hp → Prop) (h0 : Pv 0 σ H) (hl : ∀ i σ H, Pv i σ H → SqL K H a xs)
    (hs : ∀ i x T σ H, xs[i]? = some x → H T = none → Pv i σ H → g (.ref T) σ (upd H T (.tup [.int (i : Nat), x])) fun σ2 H2 => tb { D with nx := Pv (i + 1), ct := Pv (i + 1), bk := D.nx } σ2 H2) (hd : ∀ σ H, Pv xs.length σ H → D.nx σ H) :
    ∃ W : Nat → Nat → St → Hp → Prop, (∃ m, W 0 m σ H) ∧ ∀ i m σ H, W i m σ H →
      ((Ite K a).stop i H ∧ D.nx σ H) ∨ ((Ite K a).go i H ∧ ∃ N : St → Hp → Prop, (∀ σ' H', N σ' H' → ∃ m', m' < m ∧ W (i + 1) m' σ' H') ∧ ∀ x H', (Ite K a).yld i H x H' → g x σ H' fun σ2 H2 => tb { D with nx := N, ct := N, bk := D.nx } σ2 H2) := by
  refine ⟨fun i m σ H => m = xs.length - i ∧ i ≤ xs.length ∧ Pv i σ H, ⟨xs.length, by simp, Nat.zero_le _, h0⟩, ?_⟩
  rintro i m σ H ⟨rfl, hi, p⟩
  have q1 := hl i σ H p
  by_cases hlt : i < xs.length
  · refine .inr ⟨⟨xs, xs[i], q1, by simp [hlt]⟩, Pv (i + 1), fun σ' H' p' => ⟨xs.length - (i + 1), by omega, rfl, hlt, p'⟩, fun x H' y => ?_⟩
    obtain ⟨T, x1, rfl, nT, rfl, e1⟩ := y
    exact hs i x1 T σ H (e1 xs q1) nT p
  · have e : i = xs.length := by omega
    subst e
    exact .inl ⟨⟨xs, q1, Nat.le_refl _⟩, hd σ H p⟩
theorem lc_enum {K : PySem.W.Frag} {a : Addr} {xs : List V} {g : TG} {tt : TT} {te : TE} {vs : List Nat} {σ : St} {H1 : Hp} {D : Addr} {Qd : Hp → Prop} (Pv : Nat → Hp → Prop) (h0 : Pv 0 (upd H1 D (.lst []))) (hl : ∀ i H, Pv i H → SqL K H a xs)
    (hs : ∀ i x T H, xs[i]? = some x → H T = none → Pv i H → g (.ref T) (wipe σ vs) (upd H T (.tup [.int (i : Nat), x])) fun σ2 H2 => wipe σ2 vs = wipe σ vs ∧ tt σ2 H2 fun b H3 =>
      if b = true then te σ2 H3 fun y H4 => ∃ acc, H4 D = some (.lst acc) ∧ acc.length < sizeLine ∧ Pv (i + 1) (upd H4 D (.lst (acc ++ [y]))) else Pv (i + 1) H3) (hd : ∀ H, Pv xs.length H → Qd H) :
    ∃ W : Nat → Nat → Hp → Prop, (∃ m, W 0 m (upd H1 D (.lst []))) ∧ ∀ i m H, W i m H →
      ((Ite K a).stop i H ∧ Qd H) ∨ ((Ite K a).go i H ∧ ∃ Nx : Hp → Prop, (∀ H', Nx H' → ∃ m', m' < m ∧ W (i + 1) m' H') ∧ ∀ x H', (Ite K a).yld i H x H' → g x (wipe σ vs) H' fun σ2 H2 => wipe σ2 vs = wipe σ vs ∧ tt σ2 H2 fun b H3 =>
        if b = true then te σ2 H3 fun y H4 => ∃ acc, H4 D = some (.lst acc) ∧ acc.length < sizeLine ∧ Nx (upd H4 D (.lst (acc ++ [y]))) else Nx H3) := by
  refine ⟨fun i m H => m = xs.length - i ∧ i ≤ xs.length ∧ Pv i H, ⟨xs.length, by simp, Nat.zero_le _, h0⟩, ?_⟩
  rintro i m H ⟨rfl, hi, p⟩
  have q := hl i H p
  by_cases hlt : i < xs.length
  · refine .inr ⟨⟨xs, xs[i], q, by simp [hlt]⟩, Pv (i + 1), fun H' p' => ⟨xs.length - (i + 1), by omega, rfl, hlt, p'⟩, fun x H' y => ?_⟩
    obtain ⟨T, x1, rfl, nT, rfl, e1⟩ := y
    exact hs i x1 T H (e1 xs q) nT p
  · have e : i = xs.length := by omega
    subst e
    exact .inl ⟨⟨xs, q, Nat.le_refl _⟩, hd H p⟩
/-! ### the same rules within a comprehension -/
section
variable {X : Cx}
theorem pe_atK (K : PySem.W.Frag) {e : Expr} {f : Str} {pos : Pos} {ta : TE} (he : PE X e ta) (hb : attributeBase e f X.env (eval e X.env) = eval e X.env := by rfl) (hK : X.K = K := by rfl) : PE X (.Attribute e f pos) (tAt K ta f) := by
  subst hK
  exact pe_at he hb
theorem ix_listK (K : PySem.W.Frag) (hK : X.K = K := by rfl) : IxR X (rIxL K) := by
  subst hK
  exact ix_list
theorem ix_tupK (K : PySem.W.Frag) (hK : X.K = K := by rfl) : IxR X (rIxT K) := by
  subst hK
  exact ix_tup
theorem pg_tupK (K : PySem.W.Frag) {es : List Expr} {k : Nat} {pos : Pos} {t : TGs} {n : Nat} (hc : X.calm = true) (h : PGs X es t)
    (hn : (assignEach es X.env).length = n := by rfl) (hst : (assignEach es X.env).findIdx? (·.1) = none := by rfl) (hK : X.K = K := by rfl) : PG X (.Tuple es k pos) (gTup K n t) := by
  subst hK
  exact pg_tup hc h hn hst
end
end L2

set_option Elab.async false
set_option linter.all false
set_option maxRecDepth 100000
set_option maxHeartbeats 2000000
namespace Pn
open PySem PySem.Spec PyProof.Rows L2
/-! ### the text by places -/
def top (i : Nat) : Stmt := PySem.Challenge.pw_pumpnet_s01_answers.main.body.getD i (.Pass ⟨0, 0, 0, 0⟩)
abbrev s_with_count : Stmt := top 18
abbrev s_with_count_of_pairs : Stmt := top 19
abbrev s_has_both : Stmt := top 20
abbrev s_new_link_refusal : Stmt := top 21
abbrev s_node : Stmt := top 22
abbrev s_pipe : Stmt := top 23
abbrev s_valve : Stmt := top 24
abbrev s_forbid : Stmt := top 25
abbrev s_allow : Stmt := top 26
abbrev s_pump : Stmt := top 27
abbrev s_open_valve : Stmt := top 28
abbrev s_shut_valve : Stmt := top 29
abbrev s_shut_all : Stmt := top 30
abbrev s_run : Stmt := top 31
abbrev s_tick : Stmt := top 32
abbrev s_pulses : Stmt := top 33
abbrev s_clear_pump : Stmt := top 34
abbrev s_joined : Stmt := top 35
abbrev s_islands : Stmt := top 36
abbrev s_way : Stmt := top 37
abbrev s_would : Stmt := top 38
abbrev s_bridges : Stmt := top 39
abbrev s_valve_state : Stmt := top 40
abbrev s_pump_state : Stmt := top 41
abbrev s_ahead : Stmt := top 42
abbrev s_coils : Stmt := top 43
abbrev s_ledger : Stmt := top 44
abbrev s_stop_all : Stmt := top 45
abbrev s_tell_time : Stmt := top 46
abbrev s_forbidden : Stmt := top 47
abbrev s_answer : Stmt := top 49
abbrev s_Valve_init : Stmt := inClass (top 51) 0
abbrev s_Valve_counts_as_open : Stmt := inClass (top 51) 1
abbrev s_Valve_move : Stmt := inClass (top 51) 2
abbrev s_beyond : Stmt := top 53
abbrev s_doors_left : Stmt := top 54
abbrev s_door_nearer : Stmt := top 55
abbrev s_least_way : Stmt := top 56
abbrev s_least_joined : Stmt := top 60
abbrev s_reached : Stmt := top 61
abbrev s_Flow_init : Stmt := inClass (top 62) 0
abbrev s_Flow_passes : Stmt := inClass (top 62) 1
abbrev s_Net_init : Stmt := inClass (top 63) 0
abbrev s_Net_has_node : Stmt := inClass (top 63) 1
abbrev s_Net_has_valve : Stmt := inClass (top 63) 2
abbrev s_Net_add_valve : Stmt := inClass (top 63) 3
abbrev s_Net_links : Stmt := inClass (top 63) 4
abbrev s_Net_islands : Stmt := inClass (top 63) 5
abbrev s_Net_are_joined : Stmt := inClass (top 63) 6
abbrev s_Net_pairs_joined_by : Stmt := inClass (top 63) 7
abbrev s_Net_way : Stmt := inClass (top 63) 8
abbrev s_Net_is_bridge : Stmt := inClass (top 63) 9
abbrev s_Net_bridges : Stmt := inClass (top 63) 10
abbrev s_Net_forbidden_as : Stmt := inClass (top 63) 11
abbrev s_Net_flow : Stmt := inClass (top 63) 12
abbrev s_Net_move_valves : Stmt := inClass (top 63) 13
abbrev s_Pump_init : Stmt := inClass (top 67) 0
abbrev s_Pump_next_speed : Stmt := inClass (top 67) 1
abbrev s_Pump_can_go : Stmt := inClass (top 67) 2
abbrev s_Pump_fail : Stmt := inClass (top 67) 3
abbrev s_Pump_gather : Stmt := inClass (top 67) 4
abbrev s_Pump_step : Stmt := inClass (top 67) 5
abbrev s_Pump_go_at : Stmt := inClass (top 67) 6
abbrev s_Pump_tick : Stmt := inClass (top 67) 7
abbrev s_Pump_ahead : Stmt := inClass (top 67) 8
abbrev s_Pump_take_pulses : Stmt := inClass (top 67) 9
abbrev s_Pump_judge : Stmt := inClass (top 67) 10
abbrev s_Pump_clear_fault : Stmt := inClass (top 67) 11
abbrev s_Plant_init : Stmt := inClass (top 69) 0
abbrev s_Plant_has_pump : Stmt := inClass (top 69) 1
abbrev s_Plant_add_pump : Stmt := inClass (top 69) 2
abbrev s_Plant_faults : Stmt := inClass (top 69) 3
abbrev s_Plant_ledger : Stmt := inClass (top 69) 4
abbrev s_Plant_go_on : Stmt := inClass (top 69) 5
abbrev s_answers : Stmt := top 72
theorem sc_with_count : FnScope ["numbers"] ["numbers"] (defScope s_with_count) := ⟨rfl, rfl, rfl, by decide +kernel, rfl, by decide +kernel, by decide +kernel⟩
theorem bn_with_count : Bnd "with_count" "with_count" s_with_count ["numbers"] := fun _ _ _ _ _ _ us hl => match us, hl with | [_], _ => rfl
theorem sc_with_count_of_pairs : FnScope ["pairs", "told", "pair"] ["pairs"] (defScope s_with_count_of_pairs) := ⟨rfl, rfl, rfl, by decide +kernel, rfl, by decide +kernel, by decide +kernel⟩
theorem bn_with_count_of_pairs : Bnd "with_count_of_pairs" "with_count_of_pairs" s_with_count_of_pairs ["pairs"] := fun _ _ _ _ _ _ us hl => match us, hl with | [_], _ => rfl
theorem sc_has_both : FnScope ["plant", "a", "b"] ["plant", "a", "b"] (defScope s_has_both) := ⟨rfl, rfl, rfl, by decide +kernel, rfl, by decide +kernel, by decide +kernel⟩
theorem bn_has_both : Bnd "has_both" "has_both" s_has_both ["plant", "a", "b"] := fun _ _ _ _ _ _ us hl => match us, hl with | [_, _, _], _ => rfl
theorem sc_new_link_refusal : FnScope ["plant", "a", "b", "there", "most"] ["plant", "a", "b", "there", "most"] (defScope s_new_link_refusal) := ⟨rfl, rfl, rfl, by decide +kernel, rfl, by decide +kernel, by decide +kernel⟩
theorem bn_new_link_refusal : Bnd "new_link_refusal" "new_link_refusal" s_new_link_refusal ["plant", "a", "b", "there", "most"] := fun _ _ _ _ _ _ us hl => match us, hl with | [_, _, _, _, _], _ => rfl
theorem sc_node : FnScope ["plant", "given", "flags", "there"] ["plant", "given"] (defScope s_node) := ⟨rfl, rfl, rfl, by decide +kernel, rfl, by decide +kernel, by decide +kernel⟩
theorem bn_node : Bnd "node" "node" s_node ["plant", "given"] := fun _ _ _ _ _ _ us hl => match us, hl with | [_, _], _ => rfl
theorem sc_pipe : FnScope ["plant", "given", "a", "b", "there", "refusal"] ["plant", "given"] (defScope s_pipe) := ⟨rfl, rfl, rfl, by decide +kernel, rfl, by decide +kernel, by decide +kernel⟩
theorem bn_pipe : Bnd "pipe" "pipe" s_pipe ["plant", "given"] := fun _ _ _ _ _ _ us hl => match us, hl with | [_, _], _ => rfl
theorem sc_valve : FnScope ["plant", "given", "a", "b", "travel", "there", "refusal"] ["plant", "given"] (defScope s_valve) := ⟨rfl, rfl, rfl, by decide +kernel, rfl, by decide +kernel, by decide +kernel⟩
theorem bn_valve : Bnd "valve" "valve" s_valve ["plant", "given"] := fun _ _ _ _ _ _ us hl => match us, hl with | [_, _], _ => rfl
theorem sc_forbid : FnScope ["plant", "given", "a", "b"] ["plant", "given"] (defScope s_forbid) := ⟨rfl, rfl, rfl, by decide +kernel, rfl, by decide +kernel, by decide +kernel⟩
theorem bn_forbid : Bnd "forbid" "forbid" s_forbid ["plant", "given"] := fun _ _ _ _ _ _ us hl => match us, hl with | [_, _], _ => rfl
theorem sc_allow : FnScope ["plant", "given", "a", "b", "pair"] ["plant", "given"] (defScope s_allow) := ⟨rfl, rfl, rfl, by decide +kernel, rfl, by decide +kernel, by decide +kernel⟩
theorem bn_allow : Bnd "allow" "allow" s_allow ["plant", "given"] := fun _ _ _ _ _ _ us hl => match us, hl with | [_, _], _ => rfl
theorem sc_pump : FnScope ["plant", "given", "a", "b", "sizes", "there", "size", "ends", "refusal"] ["plant", "given"] (defScope s_pump) := ⟨rfl, rfl, rfl, by decide +kernel, rfl, by decide +kernel, by decide +kernel⟩
theorem bn_pump : Bnd "pump" "pump" s_pump ["plant", "given"] := fun _ _ _ _ _ _ us hl => match us, hl with | [_, _], _ => rfl
theorem sc_open_valve : FnScope ["plant", "given", "v", "told"] ["plant", "given"] (defScope s_open_valve) := ⟨rfl, rfl, rfl, by decide +kernel, rfl, by decide +kernel, by decide +kernel⟩
theorem bn_open_valve : Bnd "open_valve" "open_valve" s_open_valve ["plant", "given"] := fun _ _ _ _ _ _ us hl => match us, hl with | [_, _], _ => rfl
theorem sc_shut_valve : FnScope ["plant", "given", "v", "told"] ["plant", "given"] (defScope s_shut_valve) := ⟨rfl, rfl, rfl, by decide +kernel, rfl, by decide +kernel, by decide +kernel⟩
theorem bn_shut_valve : Bnd "shut_valve" "shut_valve" s_shut_valve ["plant", "given"] := fun _ _ _ _ _ _ us hl => match us, hl with | [_, _], _ => rfl
theorem sc_shut_all : FnScope ["plant", "given", "were_up", "each"] ["plant", "given"] (defScope s_shut_all) := ⟨rfl, rfl, rfl, by decide +kernel, rfl, by decide +kernel, by decide +kernel⟩
theorem bn_shut_all : Bnd "shut_all" "shut_all" s_shut_all ["plant", "given"] := fun _ _ _ _ _ _ us hl => match us, hl with | [_, _], _ => rfl
theorem sc_run : FnScope ["plant", "given", "p", "target", "told"] ["plant", "given"] (defScope s_run) := ⟨rfl, rfl, rfl, by decide +kernel, rfl, by decide +kernel, by decide +kernel⟩
theorem bn_run : Bnd "run" "run" s_run ["plant", "given"] := fun _ _ _ _ _ _ us hl => match us, hl with | [_, _], _ => rfl
theorem sc_tick : FnScope ["plant", "given", "ticks", "before"] ["plant", "given"] (defScope s_tick) := ⟨rfl, rfl, rfl, by decide +kernel, rfl, by decide +kernel, by decide +kernel⟩
theorem bn_tick : Bnd "tick" "tick" s_tick ["plant", "given"] := fun _ _ _ _ _ _ us hl => match us, hl with | [_, _], _ => rfl
theorem sc_pulses : FnScope ["plant", "given", "p", "seen", "told", "expected"] ["plant", "given"] (defScope s_pulses) := ⟨rfl, rfl, rfl, by decide +kernel, rfl, by decide +kernel, by decide +kernel⟩
theorem bn_pulses : Bnd "pulses" "pulses" s_pulses ["plant", "given"] := fun _ _ _ _ _ _ us hl => match us, hl with | [_, _], _ => rfl
theorem sc_clear_pump : FnScope ["plant", "given", "p", "told"] ["plant", "given"] (defScope s_clear_pump) := ⟨rfl, rfl, rfl, by decide +kernel, rfl, by decide +kernel, by decide +kernel⟩
theorem bn_clear_pump : Bnd "clear_pump" "clear_pump" s_clear_pump ["plant", "given"] := fun _ _ _ _ _ _ us hl => match us, hl with | [_, _], _ => rfl
theorem sc_joined : FnScope ["plant", "given", "a", "b"] ["plant", "given"] (defScope s_joined) := ⟨rfl, rfl, rfl, by decide +kernel, rfl, by decide +kernel, by decide +kernel⟩
theorem bn_joined : Bnd "joined" "joined" s_joined ["plant", "given"] := fun _ _ _ _ _ _ us hl => match us, hl with | [_, _], _ => rfl
theorem sc_islands : FnScope ["plant", "given"] ["plant", "given"] (defScope s_islands) := ⟨rfl, rfl, rfl, by decide +kernel, rfl, by decide +kernel, by decide +kernel⟩
theorem bn_islands : Bnd "islands" "islands" s_islands ["plant", "given"] := fun _ _ _ _ _ _ us hl => match us, hl with | [_, _], _ => rfl
theorem sc_way : FnScope ["plant", "given", "a", "b", "numbers"] ["plant", "given"] (defScope s_way) := ⟨rfl, rfl, rfl, by decide +kernel, rfl, by decide +kernel, by decide +kernel⟩
theorem bn_way : Bnd "way" "way" s_way ["plant", "given"] := fun _ _ _ _ _ _ us hl => match us, hl with | [_, _], _ => rfl
theorem sc_would : FnScope ["plant", "given", "v", "told"] ["plant", "given"] (defScope s_would) := ⟨rfl, rfl, rfl, by decide +kernel, rfl, by decide +kernel, by decide +kernel⟩
theorem bn_would : Bnd "would" "would" s_would ["plant", "given"] := fun _ _ _ _ _ _ us hl => match us, hl with | [_, _], _ => rfl
theorem sc_bridges : FnScope ["plant", "given"] ["plant", "given"] (defScope s_bridges) := ⟨rfl, rfl, rfl, by decide +kernel, rfl, by decide +kernel, by decide +kernel⟩
theorem bn_bridges : Bnd "bridges" "bridges" s_bridges ["plant", "given"] := fun _ _ _ _ _ _ us hl => match us, hl with | [_, _], _ => rfl
theorem sc_valve_state : FnScope ["plant", "given", "v", "told", "counts", "up"] ["plant", "given"] (defScope s_valve_state) := ⟨rfl, rfl, rfl, by decide +kernel, rfl, by decide +kernel, by decide +kernel⟩
theorem bn_valve_state : Bnd "valve_state" "valve_state" s_valve_state ["plant", "given"] := fun _ _ _ _ _ _ us hl => match us, hl with | [_, _], _ => rfl
theorem sc_pump_state : FnScope ["plant", "given", "p", "told"] ["plant", "given"] (defScope s_pump_state) := ⟨rfl, rfl, rfl, by decide +kernel, rfl, by decide +kernel, by decide +kernel⟩
theorem bn_pump_state : Bnd "pump_state" "pump_state" s_pump_state ["plant", "given"] := fun _ _ _ _ _ _ us hl => match us, hl with | [_, _], _ => rfl
theorem sc_ahead : FnScope ["plant", "given", "p", "ticks"] ["plant", "given"] (defScope s_ahead) := ⟨rfl, rfl, rfl, by decide +kernel, rfl, by decide +kernel, by decide +kernel⟩
theorem bn_ahead : Bnd "ahead" "ahead" s_ahead ["plant", "given"] := fun _ _ _ _ _ _ us hl => match us, hl with | [_, _], _ => rfl
theorem sc_coils : FnScope ["plant", "given", "p"] ["plant", "given"] (defScope s_coils) := ⟨rfl, rfl, rfl, by decide +kernel, rfl, by decide +kernel, by decide +kernel⟩
theorem bn_coils : Bnd "coils" "coils" s_coils ["plant", "given"] := fun _ _ _ _ _ _ us hl => match us, hl with | [_, _], _ => rfl
theorem sc_ledger : FnScope ["plant", "given"] ["plant", "given"] (defScope s_ledger) := ⟨rfl, rfl, rfl, by decide +kernel, rfl, by decide +kernel, by decide +kernel⟩
theorem bn_ledger : Bnd "ledger" "ledger" s_ledger ["plant", "given"] := fun _ _ _ _ _ _ us hl => match us, hl with | [_, _], _ => rfl
theorem sc_stop_all : FnScope ["plant", "given", "driven", "each"] ["plant", "given"] (defScope s_stop_all) := ⟨rfl, rfl, rfl, by decide +kernel, rfl, by decide +kernel, by decide +kernel⟩
theorem bn_stop_all : Bnd "stop_all" "stop_all" s_stop_all ["plant", "given"] := fun _ _ _ _ _ _ us hl => match us, hl with | [_, _], _ => rfl
theorem sc_tell_time : FnScope ["plant", "given"] ["plant", "given"] (defScope s_tell_time) := ⟨rfl, rfl, rfl, by decide +kernel, rfl, by decide +kernel, by decide +kernel⟩
theorem bn_tell_time : Bnd "tell_time" "tell_time" s_tell_time ["plant", "given"] := fun _ _ _ _ _ _ us hl => match us, hl with | [_, _], _ => rfl
theorem sc_forbidden : FnScope ["plant", "given"] ["plant", "given"] (defScope s_forbidden) := ⟨rfl, rfl, rfl, by decide +kernel, rfl, by decide +kernel, by decide +kernel⟩
theorem bn_forbidden : Bnd "forbidden" "forbidden" s_forbidden ["plant", "given"] := fun _ _ _ _ _ _ us hl => match us, hl with | [_, _], _ => rfl
theorem sc_answer : FnScope ["plant", "place", "given", "call"] ["plant", "place", "given"] (defScope s_answer) := ⟨rfl, rfl, rfl, by decide +kernel, rfl, by decide +kernel, by decide +kernel⟩
theorem bn_answer : Bnd "answer" "answer" s_answer ["plant", "place", "given"] := fun _ _ _ _ _ _ us hl => match us, hl with | [_, _, _], _ => rfl
theorem sc_Valve_init : FnScope ["self", "a", "b", "travel"] ["self", "a", "b", "travel"] (defScope s_Valve_init) := ⟨rfl, rfl, rfl, by decide +kernel, rfl, by decide +kernel, by decide +kernel⟩
theorem bn_Valve_init : Bnd "__init__" "Valve.__init__" s_Valve_init ["self", "a", "b", "travel"] := fun _ _ _ _ _ _ us hl => match us, hl with | [_, _, _, _], _ => rfl
theorem sc_Valve_counts_as_open : FnScope ["self"] ["self"] (defScope s_Valve_counts_as_open) := ⟨rfl, rfl, rfl, by decide +kernel, rfl, by decide +kernel, by decide +kernel⟩
theorem bn_Valve_counts_as_open : Bnd "counts_as_open" "Valve.counts_as_open" s_Valve_counts_as_open ["self"] := fun _ _ _ _ _ _ us hl => match us, hl with | [_], _ => rfl
theorem sc_Valve_move : FnScope ["self"] ["self"] (defScope s_Valve_move) := ⟨rfl, rfl, rfl, by decide +kernel, rfl, by decide +kernel, by decide +kernel⟩
theorem bn_Valve_move : Bnd "move" "Valve.move" s_Valve_move ["self"] := fun _ _ _ _ _ _ us hl => match us, hl with | [_], _ => rfl
theorem sc_beyond : FnScope ["door", "here"] ["door", "here"] (defScope s_beyond) := ⟨rfl, rfl, rfl, by decide +kernel, rfl, by decide +kernel, by decide +kernel⟩
theorem bn_beyond : Bnd "beyond" "beyond" s_beyond ["door", "here"] := fun _ _ _ _ _ _ us hl => match us, hl with | [_, _], _ => rfl
theorem sc_doors_left : FnScope ["doors", "goal", "left", "todo", "here", "door", "there"] ["doors", "goal"] (defScope s_doors_left) := ⟨rfl, rfl, rfl, by decide +kernel, rfl, by decide +kernel, by decide +kernel⟩
theorem bn_doors_left : Bnd "doors_left" "doors_left" s_doors_left ["doors", "goal"] := fun _ _ _ _ _ _ us hl => match us, hl with | [_, _], _ => rfl
theorem sc_door_nearer : FnScope ["doors", "left", "here", "door", "there"] ["doors", "left", "here"] (defScope s_door_nearer) := ⟨rfl, rfl, rfl, by decide +kernel, rfl, by decide +kernel, by decide +kernel⟩
theorem bn_door_nearer : Bnd "door_nearer" "door_nearer" s_door_nearer ["doors", "left", "here"] := fun _ _ _ _ _ _ us hl => match us, hl with | [_, _, _], _ => rfl
theorem sc_least_way : FnScope ["doors", "start", "goal", "left", "numbers", "here", "door"] ["doors", "start", "goal"] (defScope s_least_way) := ⟨rfl, rfl, rfl, by decide +kernel, rfl, by decide +kernel, by decide +kernel⟩
theorem bn_least_way : Bnd "least_way" "least_way" s_least_way ["doors", "start", "goal"] := fun _ _ _ _ _ _ us hl => match us, hl with | [_, _, _], _ => rfl
theorem sc_least_joined : FnScope ["size", "links", "least", "a", "b", "low", "high", "x"] ["size", "links"] (defScope s_least_joined) := ⟨rfl, rfl, rfl, by decide +kernel, rfl, by decide +kernel, by decide +kernel⟩
theorem bn_least_joined : Bnd "least_joined" "least_joined" s_least_joined ["size", "links"] := fun _ _ _ _ _ _ us hl => match us, hl with | [_, _], _ => rfl
theorem sc_reached : FnScope ["least", "flags", "wanted", "found", "low", "flag"] ["least", "flags", "wanted"] (defScope s_reached) := ⟨rfl, rfl, rfl, by decide +kernel, rfl, by decide +kernel, by decide +kernel⟩
theorem bn_reached : Bnd "reached" "reached" s_reached ["least", "flags", "wanted"] := fun _ _ _ _ _ _ us hl => match us, hl with | [_, _, _], _ => rfl
theorem sc_Flow_init : FnScope ["self", "least", "flags"] ["self", "least", "flags"] (defScope s_Flow_init) := ⟨rfl, rfl, rfl, by decide +kernel, rfl, by decide +kernel, by decide +kernel⟩
theorem bn_Flow_init : Bnd "__init__" "Flow.__init__" s_Flow_init ["self", "least", "flags"] := fun _ _ _ _ _ _ us hl => match us, hl with | [_, _, _], _ => rfl
theorem sc_Flow_passes : FnScope ["self", "a", "b"] ["self", "a", "b"] (defScope s_Flow_passes) := ⟨rfl, rfl, rfl, by decide +kernel, rfl, by decide +kernel, by decide +kernel⟩
theorem bn_Flow_passes : Bnd "passes" "Flow.passes" s_Flow_passes ["self", "a", "b"] := fun _ _ _ _ _ _ us hl => match us, hl with | [_, _, _], _ => rfl
theorem sc_Net_init : FnScope ["self"] ["self"] (defScope s_Net_init) := ⟨rfl, rfl, rfl, by decide +kernel, rfl, by decide +kernel, by decide +kernel⟩
theorem bn_Net_init : Bnd "__init__" "Net.__init__" s_Net_init ["self"] := fun _ _ _ _ _ _ us hl => match us, hl with | [_], _ => rfl
theorem sc_Net_has_node : FnScope ["self", "a"] ["self", "a"] (defScope s_Net_has_node) := ⟨rfl, rfl, rfl, by decide +kernel, rfl, by decide +kernel, by decide +kernel⟩
theorem bn_Net_has_node : Bnd "has_node" "Net.has_node" s_Net_has_node ["self", "a"] := fun _ _ _ _ _ _ us hl => match us, hl with | [_, _], _ => rfl
theorem sc_Net_has_valve : FnScope ["self", "v"] ["self", "v"] (defScope s_Net_has_valve) := ⟨rfl, rfl, rfl, by decide +kernel, rfl, by decide +kernel, by decide +kernel⟩
theorem bn_Net_has_valve : Bnd "has_valve" "Net.has_valve" s_Net_has_valve ["self", "v"] := fun _ _ _ _ _ _ us hl => match us, hl with | [_, _], _ => rfl
theorem sc_Net_add_valve : FnScope ["self", "a", "b", "travel"] ["self", "a", "b", "travel"] (defScope s_Net_add_valve) := ⟨rfl, rfl, rfl, by decide +kernel, rfl, by decide +kernel, by decide +kernel⟩
theorem bn_Net_add_valve : Bnd "add_valve" "Net.add_valve" s_Net_add_valve ["self", "a", "b", "travel"] := fun _ _ _ _ _ _ us hl => match us, hl with | [_, _, _, _], _ => rfl
theorem sc_Net_links : FnScope ["self", "valve"] ["self"] (defScope s_Net_links) := ⟨rfl, rfl, rfl, by decide +kernel, rfl, by decide +kernel, by decide +kernel⟩
theorem bn_Net_links : Bnd "links" "Net.links" s_Net_links ["self"] := fun _ _ _ _ _ _ us hl => match us, hl with | [_], _ => rfl
theorem sc_Net_islands : FnScope ["self"] ["self"] (defScope s_Net_islands) := ⟨rfl, rfl, rfl, by decide +kernel, rfl, by decide +kernel, by decide +kernel⟩
theorem bn_Net_islands : Bnd "islands" "Net.islands" s_Net_islands ["self"] := fun _ _ _ _ _ _ us hl => match us, hl with | [_], _ => rfl
theorem sc_Net_are_joined : FnScope ["self", "a", "b", "least"] ["self", "a", "b"] (defScope s_Net_are_joined) := ⟨rfl, rfl, rfl, by decide +kernel, rfl, by decide +kernel, by decide +kernel⟩
theorem bn_Net_are_joined : Bnd "are_joined" "Net.are_joined" s_Net_are_joined ["self", "a", "b"] := fun _ _ _ _ _ _ us hl => match us, hl with | [_, _, _], _ => rfl
theorem sc_Net_pairs_joined_by : FnScope ["self", "a", "b", "least", "pair"] ["self", "a", "b"] (defScope s_Net_pairs_joined_by) := ⟨rfl, rfl, rfl, by decide +kernel, rfl, by decide +kernel, by decide +kernel⟩
theorem bn_Net_pairs_joined_by : Bnd "pairs_joined_by" "Net.pairs_joined_by" s_Net_pairs_joined_by ["self", "a", "b"] := fun _ _ _ _ _ _ us hl => match us, hl with | [_, _, _], _ => rfl
theorem sc_Net_way : FnScope ["self", "a", "b", "place", "doors", "v", "valve"] ["self", "a", "b"] (defScope s_Net_way) := ⟨rfl, rfl, rfl, by decide +kernel, rfl, by decide +kernel, by decide +kernel⟩
theorem bn_Net_way : Bnd "way" "Net.way" s_Net_way ["self", "a", "b"] := fun _ _ _ _ _ _ us hl => match us, hl with | [_, _, _], _ => rfl
theorem sc_Net_is_bridge : FnScope ["self", "valve", "links", "least"] ["self", "valve"] (defScope s_Net_is_bridge) := ⟨rfl, rfl, rfl, by decide +kernel, rfl, by decide +kernel, by decide +kernel⟩
theorem bn_Net_is_bridge : Bnd "is_bridge" "Net.is_bridge" s_Net_is_bridge ["self", "valve"] := fun _ _ _ _ _ _ us hl => match us, hl with | [_, _], _ => rfl
theorem sc_Net_bridges : FnScope ["self", "v", "valve"] ["self"] (defScope s_Net_bridges) := ⟨rfl, rfl, rfl, by decide +kernel, rfl, by decide +kernel, by decide +kernel⟩
theorem bn_Net_bridges : Bnd "bridges" "Net.bridges" s_Net_bridges ["self"] := fun _ _ _ _ _ _ us hl => match us, hl with | [_], _ => rfl
theorem sc_Net_forbidden_as : FnScope ["self", "a", "b", "pair"] ["self", "a", "b"] (defScope s_Net_forbidden_as) := ⟨rfl, rfl, rfl, by decide +kernel, rfl, by decide +kernel, by decide +kernel⟩
theorem bn_Net_forbidden_as : Bnd "forbidden_as" "Net.forbidden_as" s_Net_forbidden_as ["self", "a", "b"] := fun _ _ _ _ _ _ us hl => match us, hl with | [_, _, _], _ => rfl
theorem sc_Net_flow : FnScope ["self"] ["self"] (defScope s_Net_flow) := ⟨rfl, rfl, rfl, by decide +kernel, rfl, by decide +kernel, by decide +kernel⟩
theorem bn_Net_flow : Bnd "flow" "Net.flow" s_Net_flow ["self"] := fun _ _ _ _ _ _ us hl => match us, hl with | [_], _ => rfl
theorem sc_Net_move_valves : FnScope ["self", "some_closed", "valve", "before"] ["self"] (defScope s_Net_move_valves) := ⟨rfl, rfl, rfl, by decide +kernel, rfl, by decide +kernel, by decide +kernel⟩
theorem bn_Net_move_valves : Bnd "move_valves" "Net.move_valves" s_Net_move_valves ["self"] := fun _ _ _ _ _ _ us hl => match us, hl with | [_], _ => rfl
theorem sc_Pump_init : FnScope ["self", "a", "b", "den", "stroke", "slope", "per", "tol"] ["self", "a", "b", "den", "stroke", "slope", "per", "tol"] (defScope s_Pump_init) := ⟨rfl, rfl, rfl, by decide +kernel, rfl, by decide +kernel, by decide +kernel⟩
theorem bn_Pump_init : Bnd "__init__" "Pump.__init__" s_Pump_init ["self", "a", "b", "den", "stroke", "slope", "per", "tol"] := fun _ _ _ _ _ _ us hl => match us, hl with | [_, _, _, _, _, _, _, _], _ => rfl
theorem sc_Pump_next_speed : FnScope ["self"] ["self"] (defScope s_Pump_next_speed) := ⟨rfl, rfl, rfl, by decide +kernel, rfl, by decide +kernel, by decide +kernel⟩
theorem bn_Pump_next_speed : Bnd "next_speed" "Pump.next_speed" s_Pump_next_speed ["self"] := fun _ _ _ _ _ _ us hl => match us, hl with | [_], _ => rfl
theorem sc_Pump_can_go : FnScope ["self", "speed", "flow"] ["self", "speed", "flow"] (defScope s_Pump_can_go) := ⟨rfl, rfl, rfl, by decide +kernel, rfl, by decide +kernel, by decide +kernel⟩
theorem bn_Pump_can_go : Bnd "can_go" "Pump.can_go" s_Pump_can_go ["self", "speed", "flow"] := fun _ _ _ _ _ _ us hl => match us, hl with | [_, _, _], _ => rfl
theorem sc_Pump_fail : FnScope ["self", "fault"] ["self", "fault"] (defScope s_Pump_fail) := ⟨rfl, rfl, rfl, by decide +kernel, rfl, by decide +kernel, by decide +kernel⟩
theorem bn_Pump_fail : Bnd "fail" "Pump.fail" s_Pump_fail ["self", "fault"] := fun _ _ _ _ _ _ us hl => match us, hl with | [_, _], _ => rfl
theorem sc_Pump_gather : FnScope ["self"] ["self"] (defScope s_Pump_gather) := ⟨rfl, rfl, rfl, by decide +kernel, rfl, by decide +kernel, by decide +kernel⟩
theorem bn_Pump_gather : Bnd "gather" "Pump.gather" s_Pump_gather ["self"] := fun _ _ _ _ _ _ us hl => match us, hl with | [_], _ => rfl
theorem sc_Pump_step : FnScope ["self", "direction"] ["self", "direction"] (defScope s_Pump_step) := ⟨rfl, rfl, rfl, by decide +kernel, rfl, by decide +kernel, by decide +kernel⟩
theorem bn_Pump_step : Bnd "step" "Pump.step" s_Pump_step ["self", "direction"] := fun _ _ _ _ _ _ us hl => match us, hl with | [_, _], _ => rfl
theorem sc_Pump_go_at : FnScope ["self", "speed"] ["self", "speed"] (defScope s_Pump_go_at) := ⟨rfl, rfl, rfl, by decide +kernel, rfl, by decide +kernel, by decide +kernel⟩
theorem bn_Pump_go_at : Bnd "go_at" "Pump.go_at" s_Pump_go_at ["self", "speed"] := fun _ _ _ _ _ _ us hl => match us, hl with | [_, _], _ => rfl
theorem sc_Pump_tick : FnScope ["self", "flow", "speed"] ["self", "flow"] (defScope s_Pump_tick) := ⟨rfl, rfl, rfl, by decide +kernel, rfl, by decide +kernel, by decide +kernel⟩
theorem bn_Pump_tick : Bnd "tick" "Pump.tick" s_Pump_tick ["self", "flow"] := fun _ _ _ _ _ _ us hl => match us, hl with | [_, _], _ => rfl
theorem sc_Pump_ahead : FnScope ["self", "ticks", "trial", "k"] ["self", "ticks"] (defScope s_Pump_ahead) := ⟨rfl, rfl, rfl, by decide +kernel, rfl, by decide +kernel, by decide +kernel⟩
theorem bn_Pump_ahead : Bnd "ahead" "Pump.ahead" s_Pump_ahead ["self", "ticks"] := fun _ _ _ _ _ _ us hl => match us, hl with | [_, _], _ => rfl
theorem sc_Pump_take_pulses : FnScope ["self", "seen", "expected"] ["self", "seen"] (defScope s_Pump_take_pulses) := ⟨rfl, rfl, rfl, by decide +kernel, rfl, by decide +kernel, by decide +kernel⟩
theorem bn_Pump_take_pulses : Bnd "take_pulses" "Pump.take_pulses" s_Pump_take_pulses ["self", "seen"] := fun _ _ _ _ _ _ us hl => match us, hl with | [_, _], _ => rfl
theorem sc_Pump_judge : FnScope ["self", "astray"] ["self", "astray"] (defScope s_Pump_judge) := ⟨rfl, rfl, rfl, by decide +kernel, rfl, by decide +kernel, by decide +kernel⟩
theorem bn_Pump_judge : Bnd "judge" "Pump.judge" s_Pump_judge ["self", "astray"] := fun _ _ _ _ _ _ us hl => match us, hl with | [_, _], _ => rfl
theorem sc_Pump_clear_fault : FnScope ["self"] ["self"] (defScope s_Pump_clear_fault) := ⟨rfl, rfl, rfl, by decide +kernel, rfl, by decide +kernel, by decide +kernel⟩
theorem bn_Pump_clear_fault : Bnd "clear_fault" "Pump.clear_fault" s_Pump_clear_fault ["self"] := fun _ _ _ _ _ _ us hl => match us, hl with | [_], _ => rfl
theorem sc_Plant_init : FnScope ["self"] ["self"] (defScope s_Plant_init) := ⟨rfl, rfl, rfl, by decide +kernel, rfl, by decide +kernel, by decide +kernel⟩
theorem bn_Plant_init : Bnd "__init__" "Plant.__init__" s_Plant_init ["self"] := fun _ _ _ _ _ _ us hl => match us, hl with | [_], _ => rfl
theorem sc_Plant_has_pump : FnScope ["self", "p"] ["self", "p"] (defScope s_Plant_has_pump) := ⟨rfl, rfl, rfl, by decide +kernel, rfl, by decide +kernel, by decide +kernel⟩
theorem bn_Plant_has_pump : Bnd "has_pump" "Plant.has_pump" s_Plant_has_pump ["self", "p"] := fun _ _ _ _ _ _ us hl => match us, hl with | [_, _], _ => rfl
theorem sc_Plant_add_pump : FnScope ["self", "a", "b", "sizes"] ["self", "a", "b", "sizes"] (defScope s_Plant_add_pump) := ⟨rfl, rfl, rfl, by decide +kernel, rfl, by decide +kernel, by decide +kernel⟩
theorem bn_Plant_add_pump : Bnd "add_pump" "Plant.add_pump" s_Plant_add_pump ["self", "a", "b", "sizes"] := fun _ _ _ _ _ _ us hl => match us, hl with | [_, _, _, _], _ => rfl
theorem sc_Plant_faults : FnScope ["self", "pump"] ["self"] (defScope s_Plant_faults) := ⟨rfl, rfl, rfl, by decide +kernel, rfl, by decide +kernel, by decide +kernel⟩
theorem bn_Plant_faults : Bnd "faults" "Plant.faults" s_Plant_faults ["self"] := fun _ _ _ _ _ _ us hl => match us, hl with | [_], _ => rfl
theorem sc_Plant_ledger : FnScope ["self", "sums", "pump"] ["self"] (defScope s_Plant_ledger) := ⟨rfl, rfl, rfl, by decide +kernel, rfl, by decide +kernel, by decide +kernel⟩
theorem bn_Plant_ledger : Bnd "ledger" "Plant.ledger" s_Plant_ledger ["self"] := fun _ _ _ _ _ _ us hl => match us, hl with | [_], _ => rfl
theorem sc_Plant_go_on : FnScope ["self", "ticks", "flow", "k", "pump"] ["self", "ticks"] (defScope s_Plant_go_on) := ⟨rfl, rfl, rfl, by decide +kernel, rfl, by decide +kernel, by decide +kernel⟩
theorem bn_Plant_go_on : Bnd "go_on" "Plant.go_on" s_Plant_go_on ["self", "ticks"] := fun _ _ _ _ _ _ us hl => match us, hl with | [_, _], _ => rfl
theorem sc_answers : FnScope ["calls", "plant", "told", "at", "end", "numbers"] ["calls"] (defScope s_answers) := ⟨rfl, rfl, rfl, by decide +kernel, rfl, by decide +kernel, by decide +kernel⟩
theorem bn_answers : Bnd "answers" "answers" s_answers ["calls"] := fun _ _ _ _ _ _ us hl => match us, hl with | [_], _ => rfl
structure Adr where
  cV : Addr
  cF : Addr
  cN : Addr
  cP : Addr
  cL : Addr
  aR : Addr
  aC : Addr
  aK : Addr
  aW : Addr
structure Txt (K : PySem.W.Frag) (mg : Str → Option Value) (t : Adr) : Prop where
  c_Valve : Cls K t.cV
  n_Valve_a : NoAttr K t.cV "a"
  n_Valve_b : NoAttr K t.cV "b"
  n_Valve_travel : NoAttr K t.cV "travel"
  n_Valve_place : NoAttr K t.cV "place"
  n_Valve_up : NoAttr K t.cV "up"
  c_Flow : Cls K t.cF
  n_Flow_fed : NoAttr K t.cF "fed"
  n_Flow_drained : NoAttr K t.cF "drained"
  c_Net : Cls K t.cN
  n_Net_flags : NoAttr K t.cN "flags"
  n_Net_pipes : NoAttr K t.cN "pipes"
  n_Net_valves : NoAttr K t.cN "valves"
  n_Net_forbidden : NoAttr K t.cN "forbidden"
  c_Pump : Cls K t.cP
  n_Pump_a : NoAttr K t.cP "a"
  n_Pump_b : NoAttr K t.cP "b"
  n_Pump_den : NoAttr K t.cP "den"
  n_Pump_stroke : NoAttr K t.cP "stroke"
  n_Pump_slope : NoAttr K t.cP "slope"
  n_Pump_per : NoAttr K t.cP "per"
  n_Pump_tol : NoAttr K t.cP "tol"
  n_Pump_target : NoAttr K t.cP "target"
  n_Pump_speed : NoAttr K t.cP "speed"
  n_Pump_gathered : NoAttr K t.cP "gathered"
  n_Pump_position : NoAttr K t.cP "position"
  n_Pump_moved : NoAttr K t.cP "moved"
  n_Pump_bad : NoAttr K t.cP "bad"
  n_Pump_fault : NoAttr K t.cP "fault"
  c_Plant : Cls K t.cL
  n_Plant_net : NoAttr K t.cL "net"
  n_Plant_pumps : NoAttr K t.cL "pumps"
  n_Plant_clock : NoAttr K t.cL "clock"
  f_with_count : FnD K mg "with_count" s_with_count
  f_with_count_of_pairs : FnD K mg "with_count_of_pairs" s_with_count_of_pairs
  f_has_both : FnD K mg "has_both" s_has_both
  f_new_link_refusal : FnD K mg "new_link_refusal" s_new_link_refusal
  f_node : FnD K mg "node" s_node
  f_pipe : FnD K mg "pipe" s_pipe
  f_valve : FnD K mg "valve" s_valve
  f_forbid : FnD K mg "forbid" s_forbid
  f_allow : FnD K mg "allow" s_allow
  f_pump : FnD K mg "pump" s_pump
  f_open_valve : FnD K mg "open_valve" s_open_valve
  f_shut_valve : FnD K mg "shut_valve" s_shut_valve
  f_shut_all : FnD K mg "shut_all" s_shut_all
  f_run : FnD K mg "run" s_run
  f_tick : FnD K mg "tick" s_tick
  f_pulses : FnD K mg "pulses" s_pulses
  f_clear_pump : FnD K mg "clear_pump" s_clear_pump
  f_joined : FnD K mg "joined" s_joined
  f_islands : FnD K mg "islands" s_islands
  f_way : FnD K mg "way" s_way
  f_would : FnD K mg "would" s_would
  f_bridges : FnD K mg "bridges" s_bridges
  f_valve_state : FnD K mg "valve_state" s_valve_state
  f_pump_state : FnD K mg "pump_state" s_pump_state
  f_ahead : FnD K mg "ahead" s_ahead
  f_coils : FnD K mg "coils" s_coils
  f_ledger : FnD K mg "ledger" s_ledger
  f_stop_all : FnD K mg "stop_all" s_stop_all
  f_tell_time : FnD K mg "tell_time" s_tell_time
  f_forbidden : FnD K mg "forbidden" s_forbidden
  f_answer : FnD K mg "answer" s_answer
  f_Valve_init : MkD K mg t.cV "Valve" "Valve.__init__" s_Valve_init
  f_Valve_counts_as_open : MeD K t.cV "counts_as_open" "Valve.counts_as_open" s_Valve_counts_as_open
  f_Valve_move : MeD K t.cV "move" "Valve.move" s_Valve_move
  f_beyond : FnD K mg "beyond" s_beyond
  f_doors_left : FnD K mg "doors_left" s_doors_left
  f_door_nearer : FnD K mg "door_nearer" s_door_nearer
  f_least_way : FnD K mg "least_way" s_least_way
  f_least_joined : FnD K mg "least_joined" s_least_joined
  f_reached : FnD K mg "reached" s_reached
  f_Flow_init : MkD K mg t.cF "Flow" "Flow.__init__" s_Flow_init
  f_Flow_passes : MeD K t.cF "passes" "Flow.passes" s_Flow_passes
  f_Net_init : MkD K mg t.cN "Net" "Net.__init__" s_Net_init
  f_Net_has_node : MeD K t.cN "has_node" "Net.has_node" s_Net_has_node
  f_Net_has_valve : MeD K t.cN "has_valve" "Net.has_valve" s_Net_has_valve
  f_Net_add_valve : MeD K t.cN "add_valve" "Net.add_valve" s_Net_add_valve
  f_Net_links : MeD K t.cN "links" "Net.links" s_Net_links
  f_Net_islands : MeD K t.cN "islands" "Net.islands" s_Net_islands
  f_Net_are_joined : MeD K t.cN "are_joined" "Net.are_joined" s_Net_are_joined
  f_Net_pairs_joined_by : MeD K t.cN "pairs_joined_by" "Net.pairs_joined_by" s_Net_pairs_joined_by
  f_Net_way : MeD K t.cN "way" "Net.way" s_Net_way
  f_Net_is_bridge : MeD K t.cN "is_bridge" "Net.is_bridge" s_Net_is_bridge
  f_Net_bridges : MeD K t.cN "bridges" "Net.bridges" s_Net_bridges
  f_Net_forbidden_as : MeD K t.cN "forbidden_as" "Net.forbidden_as" s_Net_forbidden_as
  f_Net_flow : MeD K t.cN "flow" "Net.flow" s_Net_flow
  f_Net_move_valves : MeD K t.cN "move_valves" "Net.move_valves" s_Net_move_valves
  f_Pump_init : MkD K mg t.cP "Pump" "Pump.__init__" s_Pump_init
  f_Pump_next_speed : MeD K t.cP "next_speed" "Pump.next_speed" s_Pump_next_speed
  f_Pump_can_go : MeD K t.cP "can_go" "Pump.can_go" s_Pump_can_go
  f_Pump_fail : MeD K t.cP "fail" "Pump.fail" s_Pump_fail
  f_Pump_gather : MeD K t.cP "gather" "Pump.gather" s_Pump_gather
  f_Pump_step : MeD K t.cP "step" "Pump.step" s_Pump_step
  f_Pump_go_at : MeD K t.cP "go_at" "Pump.go_at" s_Pump_go_at
  f_Pump_tick : MeD K t.cP "tick" "Pump.tick" s_Pump_tick
  f_Pump_ahead : MeD K t.cP "ahead" "Pump.ahead" s_Pump_ahead
  f_Pump_take_pulses : MeD K t.cP "take_pulses" "Pump.take_pulses" s_Pump_take_pulses
  f_Pump_judge : MeD K t.cP "judge" "Pump.judge" s_Pump_judge
  f_Pump_clear_fault : MeD K t.cP "clear_fault" "Pump.clear_fault" s_Pump_clear_fault
  f_Plant_init : MkD K mg t.cL "Plant" "Plant.__init__" s_Plant_init
  f_Plant_has_pump : MeD K t.cL "has_pump" "Plant.has_pump" s_Plant_has_pump
  f_Plant_add_pump : MeD K t.cL "add_pump" "Plant.add_pump" s_Plant_add_pump
  f_Plant_faults : MeD K t.cL "faults" "Plant.faults" s_Plant_faults
  f_Plant_ledger : MeD K t.cL "ledger" "Plant.ledger" s_Plant_ledger
  f_Plant_go_on : MeD K t.cL "go_on" "Plant.go_on" s_Plant_go_on
  f_answers : FnD K mg "answers" s_answers
  i_MOST_NODES : ∃ tk, mg "MOST_NODES" = some (.int 24 tk)
  i_MOST_PIPES : ∃ tk, mg "MOST_PIPES" = some (.int 48 tk)
  i_MOST_VALVES : ∃ tk, mg "MOST_VALVES" = some (.int 48 tk)
  i_MOST_FORBIDDEN : ∃ tk, mg "MOST_FORBIDDEN" = some (.int 24 tk)
  i_MOST_PUMPS : ∃ tk, mg "MOST_PUMPS" = some (.int 8 tk)
  i_MOST_CLOCK : ∃ tk, mg "MOST_CLOCK" = some (.int 20000 tk)
  i_MOST_AHEAD : ∃ tk, mg "MOST_AHEAD" = some (.int 10000 tk)
  i_OUT_OF_RANGE : ∃ tk, mg "OUT_OF_RANGE" = some (.int (-1) tk)
  i_FULL : ∃ tk, mg "FULL" = some (.int (-2) tk)
  i_SAME_NODE : ∃ tk, mg "SAME_NODE" = some (.int (-3) tk)
  i_WOULD_JOIN : ∃ tk, mg "WOULD_JOIN" = some (.int (-5) tk)
  i_ARE_JOINED : ∃ tk, mg "ARE_JOINED" = some (.int (-6) tk)
  i_HAS_FAULT : ∃ tk, mg "HAS_FAULT" = some (.int (-7) tk)
  i_TOO_LATE : ∃ tk, mg "TOO_LATE" = some (.int (-8) tk)
  i_NO_WAY : ∃ tk, mg "NO_WAY" = some (.int (-9) tk)
  i_SOURCE : ∃ tk, mg "SOURCE" = some (.int 1 tk)
  i_END : ∃ tk, mg "END" = some (.int 2 tk)
  i_NOTHING_FLOWS : ∃ tk, mg "NOTHING_FLOWS" = some (.int 1 tk)
  i_SLIPPED : ∃ tk, mg "SLIPPED" = some (.int 2 tk)
  t_PUMP_RANGES : mg "PUMP_RANGES" = some (.ref t.aR)
  t_COILS : mg "COILS" = some (.ref t.aC)
  t_CALLS : mg "CALLS" = some (.ref t.aK)
  t_WIDTHS : mg "WIDTHS" = some (.ref t.aW)
  q_COILS : ∀ H, SqT K H t.aC [.int 1, .int 3, .int 2, .int 6, .int 4, .int 12, .int 8, .int 9]
  q_WIDTHS : ∀ H, SqT K H t.aW [.int 1, .int 2, .int 3, .int 2, .int 2, .int 7, .int 1, .int 1, .int 0, .int 2, .int 1, .int 2, .int 1, .int 2, .int 0, .int 2, .int 1, .int 0, .int 1, .int 1, .int 2, .int 1, .int 0, .int 0, .int 0, .int 0]
  q_RANGES : ∃ r0 r1 r2 r3 r4 : Addr, (∀ H, SqT K H t.aR [.ref r0, .ref r1, .ref r2, .ref r3, .ref r4]) ∧ (∀ H, SqT K H r0 [.int 1, .int 1000000]) ∧ (∀ H, SqT K H r1 [.int 1, .int 1000000]) ∧ (∀ H, SqT K H r2 [.int 1, .int 1000000]) ∧ (∀ H, SqT K H r3 [.int 1, .int 64]) ∧ (∀ H, SqT K H r4 [.int 0, .int 1000])
  q_CALLS : ∃ k0 k1 k2 k3 k4 k5 k6 k7 k8 k9 k10 k11 k12 k13 k14 k15 k16 k17 k18 k19 k20 k21 k22 k23 k24 k25 : Addr, (∀ H, SqT K H t.aK [.ref k0, .ref k1, .ref k2, .ref k3, .ref k4, .ref k5, .ref k6, .ref k7, .ref k8, .ref k9, .ref k10, .ref k11, .ref k12, .ref k13, .ref k14, .ref k15, .ref k16, .ref k17, .ref k18, .ref k19, .ref k20, .ref k21, .ref k22, .ref k23, .ref k24, .ref k25]) ∧ mg "node" = some (.ref k0) ∧ mg "pipe" = some (.ref k1) ∧ mg "valve" = some (.ref k2) ∧ mg "forbid" = some (.ref k3) ∧ mg "allow" = some (.ref k4) ∧ mg "pump" = some (.ref k5) ∧ mg "open_valve" = some (.ref k6) ∧ mg "shut_valve" = some (.ref k7) ∧ mg "shut_all" = some (.ref k8) ∧ mg "run" = some (.ref k9) ∧ mg "tick" = some (.ref k10) ∧ mg "pulses" = some (.ref k11) ∧ mg "clear_pump" = some (.ref k12) ∧ mg "joined" = some (.ref k13) ∧ mg "islands" = some (.ref k14) ∧ mg "way" = some (.ref k15) ∧ mg "would" = some (.ref k16) ∧ mg "bridges" = some (.ref k17) ∧ mg "valve_state" = some (.ref k18) ∧ mg "pump_state" = some (.ref k19) ∧ mg "ahead" = some (.ref k20) ∧ mg "coils" = some (.ref k21) ∧ mg "ledger" = some (.ref k22) ∧ mg "stop_all" = some (.ref k23) ∧ mg "tell_time" = some (.ref k24) ∧ mg "forbidden" = some (.ref k25)
  b_abs : mg "abs" = none
  b_enumerate : mg "enumerate" = none
  b_len : mg "len" = none
  b_list : mg "list" = none
  b_max : mg "max" = none
  b_min : mg "min" = none
  b_range : mg "range" = none
  b_zip : mg "zip" = none
end Pn

set_option Elab.async false
set_option linter.all false
set_option maxRecDepth 100000
set_option maxHeartbeats 2000000
namespace Pn
open PySem PySem.Spec PyProof.Rows L2
/-! ### the data: what stands at an object -/
abbrev Va := Vbdlad.Valve
abbrev Pu := Vbdlad.Pump
abbrev Ss := Vbdlad.St
def vf (v : Va) : List (Str × V) := [("a", .int v.a), ("b", .int v.b), ("travel", .int v.travel), ("place", .int v.place), ("up", .bl v.up)]
def pf (p : Pu) : List (Str × V) := [("a", .int p.a), ("b", .int p.b), ("den", .int p.den), ("stroke", .int p.stroke), ("slope", .int p.slope), ("per", .int p.per), ("tol", .int p.tol), ("target", .int p.target), ("speed", .int p.speed), ("gathered", .int p.acc), ("position", .int p.pos), ("moved", .int p.moved), ("bad", .int p.bad), ("fault", .int p.fault)]
def nf (f p v o : Addr) : List (Str × V) := [("flags", .ref f), ("pipes", .ref p), ("valves", .ref v), ("forbidden", .ref o)]
def lf (n p : Addr) (c : Int) : List (Str × V) := [("net", .ref n), ("pumps", .ref p), ("clock", .int c)]
def ff (a b : Addr) : List (Str × V) := [("fed", .ref a), ("drained", .ref b)]
def iL (ns : List Int) : HO := .lst (ns.map V.int)
def nL (l : List Nat) : HO := .lst (l.map fun (n : Nat) => V.int n)
def bL (l : List Bool) : HO := .lst (l.map V.bl)
def rL (l : List Addr) : HO := .lst (l.map V.ref)
def VaAt (t : Adr) (H : Hp) (a : Addr) (v : Va) : Prop := ∃ dx, H a = some (.ins t.cV dx (vf v))
def PuAt (t : Adr) (H : Hp) (a : Addr) (p : Pu) : Prop := ∃ dx, H a = some (.ins t.cP dx (pf p))
def FlAt (t : Adr) (H : Hp) (a : Addr) (fe dr : List Bool) : Prop := ∃ dx x y, H a = some (.ins t.cF dx (ff x y)) ∧ H x = some (bL fe) ∧ H y = some (bL dr)
/-- one thing for each address -/
structure All2 {α : Type} (P : Addr → α → Prop) (as : List Addr) (xs : List α) : Prop where
  len : as.length = xs.length
  at_ : ∀ (i : Nat) (a : Addr), as[i]? = some a → ∃ x, xs[i]? = some x ∧ P a x
/-- where the plant stands -/
structure Root where
  pl : Addr
  nt : Addr
  df : Addr
  dn : Addr
  lf : Addr
  lp : Addr
  lv : Addr
  lo : Addr
  lu : Addr
  tp : List Addr
  vs : List Addr
  fo : List Addr
  ps : List Addr
structure Rep (t : Adr) (R : Root) (s : Ss) (H : Hp) : Prop where
  pl : H R.pl = some (.ins t.cL R.df (Pn.lf R.nt R.lu s.tick))
  nt : H R.nt = some (.ins t.cN R.dn (nf R.lf R.lp R.lv R.lo))
  lf : H R.lf = some (nL s.nodes)
  lp : H R.lp = some (rL R.tp)
  tp : Prs H R.tp s.pipes
  lv : H R.lv = some (rL R.vs)
  vs : All2 (VaAt t H) R.vs s.valves
  lo : H R.lo = some (rL R.fo)
  fo : Prs H R.fo s.forbidden
  lu : H R.lu = some (rL R.ps)
  ps : All2 (PuAt t H) R.ps s.pumps
  nd : [R.lf, R.lp, R.lv, R.lo, R.lu].Nodup
  vn : R.vs.Nodup
  pn : R.ps.Nodup
/-- what calls may change -/
def Foot (R : Root) (b : Addr) : Prop := b = R.pl ∨ b = R.lf ∨ b = R.lp ∨ b = R.lv ∨ b = R.lo ∨ b = R.lu ∨ b ∈ R.vs ∨ b ∈ R.ps
/-- all but what the plant is made of stays; what it's newly made of was not there -/
structure Went (R : Root) (H : Hp) (R' : Root) (H' : Hp) : Prop where
  pl : R'.pl = R.pl
  keep : ∀ b o, H b = some o → ¬ Foot R b → H' b = some o
  new : ∀ b, Foot R' b → Foot R b ∨ H b = none
/-- all but one stays -/
def But (p : Addr) (H H' : Hp) : Prop := ∀ b o, H b = some o → b ≠ p → H' b = some o
section
variable {α : Type} {P P' : Addr → α → Prop} {as : List Addr} {xs : List α}
theorem All2.imp (h : All2 P as xs) (f : ∀ a x, a ∈ as → P a x → P' a x) : All2 P' as xs := ⟨h.len, fun i a e => by
  obtain ⟨x, e2, p⟩ := h.at_ i a e
  exact ⟨x, e2, f a x (List.mem_of_getElem? e) p⟩⟩
theorem All2.nil : All2 P [] [] := ⟨rfl, fun i a e => by simp at e⟩
theorem All2.get (h : All2 P as xs) {i : Nat} {x : α} (e : xs[i]? = some x) : ∃ a, as[i]? = some a ∧ P a x := by
  have hi : i < as.length := by rw [h.len]; exact (List.getElem?_eq_some_iff.mp e).1
  obtain ⟨y, e2, p⟩ := h.at_ i as[i] (List.getElem?_eq_getElem hi)
  rw [e] at e2
  cases e2
  exact ⟨as[i], List.getElem?_eq_getElem hi, p⟩
theorem All2.mem (h : All2 P as xs) {a : Addr} (m : a ∈ as) : ∃ x, P a x := by
  obtain ⟨i, e⟩ := List.getElem?_of_mem m
  obtain ⟨x, _, p⟩ := h.at_ i a e
  exact ⟨x, p⟩
theorem All2.snoc (h : All2 P as xs) {a : Addr} {x : α} (p : P a x) : All2 P (as ++ [a]) (xs ++ [x]) := by
  refine ⟨by simp [h.len], fun i b e => ?_⟩
  by_cases hi : i < as.length
  · rw [List.getElem?_append_left hi] at e
    rw [List.getElem?_append_left (by rw [← h.len]; exact hi)]
    exact h.at_ i b e
  · rw [List.getElem?_append_right (by omega)] at e
    rw [List.getElem?_append_right (by rw [← h.len]; omega)]
    by_cases h0 : i - as.length = 0
    · rw [h0] at e
      rw [← h.len, h0]
      cases e
      exact ⟨x, rfl, p⟩
    · obtain ⟨n, hn⟩ : ∃ n, i - as.length = n + 1 := ⟨i - as.length - 1, by omega⟩
      rw [hn] at e
      simp at e
/-- one is changed -/
theorem All2.set (h : All2 P as xs) (nd : as.Nodup) {i : Nat} {a : Addr} {y : α} (e : as[i]? = some a) (f : ∀ b x, b ∈ as → b ≠ a → P b x → P' b x) (p : P' a y) : All2 P' as (xs.set i y) := by
  refine ⟨by rw [List.length_set]; exact h.len, fun j b eb => ?_⟩
  by_cases hj : j = i
  · subst hj
    rw [e] at eb
    cases eb
    exact ⟨y, List.getElem?_set_self (by rw [← h.len]; exact (List.getElem?_eq_some_iff.mp e).1), p⟩
  · obtain ⟨x, ex, px⟩ := h.at_ j b eb
    refine ⟨x, by rw [List.getElem?_set_ne (fun q => hj q.symm)]; exact ex, f b x (List.mem_of_getElem? eb) (fun q => hj ?_) px⟩
    subst q
    exact nd_ix nd eb e
end
theorem _root_.L2.Prs.imp {H H' : Hp} {ts : List Addr} {js : Js} (h : Prs H ts js) (f : ∀ a o, a ∈ ts → H a = some o → H' a = some o) : Prs H' ts js := ⟨h.len, fun i a e => by
  obtain ⟨q, e2, p⟩ := h.at_ i a e
  exact ⟨q, e2, f a _ (List.mem_of_getElem? e) p⟩⟩
theorem _root_.L2.Prs.nil {H : Hp} : Prs H [] [] := ⟨rfl, fun i a e => by simp at e⟩
theorem _root_.L2.Prs.all {H : Hp} {ts : List Addr} {js : Js} (h : Prs H ts js) : All2 (fun a q => H a = some (tup2 q)) ts js := ⟨h.len, h.at_⟩
theorem _root_.L2.Prs.of {H : Hp} {ts : List Addr} {js : Js} (h : All2 (fun a q => H a = some (tup2 q)) ts js) : Prs H ts js := ⟨h.len, h.at_⟩
theorem _root_.L2.Prs.same {H H' : Hp} {ts : List Addr} {js : Js} (h : Prs H ts js) (s : Same H H') : Prs H' ts js := h.imp fun a o _ e => s a o e
theorem _root_.L2.Prs.snoc {H : Hp} {ts : List Addr} {js : Js} (h : Prs H ts js) {a : Addr} {q : Nat × Nat} (e : H a = some (tup2 q)) : Prs H (ts ++ [a]) (js ++ [q]) := .of (h.all.snoc e)
section
variable {t : Adr} {R : Root} {s : Ss} {H H' : Hp}
theorem VaAt.same {a : Addr} {v : Va} (h : VaAt t H a v) (f : ∀ o, H a = some o → H' a = some o) : VaAt t H' a v := let ⟨dx, e⟩ := h; ⟨dx, f _ e⟩
theorem PuAt.same {a : Addr} {v : Pu} (h : PuAt t H a v) (f : ∀ o, H a = some o → H' a = some o) : PuAt t H' a v := let ⟨dx, e⟩ := h; ⟨dx, f _ e⟩
theorem FlAt.same {a : Addr} {x y : List Bool} (h : FlAt t H a x y) (f : Same H H') : FlAt t H' a x y := let ⟨dx, p, q, e, e1, e2⟩ := h; ⟨dx, p, q, f _ _ e, f _ _ e1, f _ _ e2⟩
theorem Rep.same (h : Rep t R s H) (f : Same H H') : Rep t R s H' :=
  ⟨f _ _ h.pl, f _ _ h.nt, f _ _ h.lf, f _ _ h.lp, h.tp.same f, f _ _ h.lv, h.vs.imp fun a _ _ p => p.same fun o e => f a o e, f _ _ h.lo, h.fo.same f, f _ _ h.lu, h.ps.imp fun a _ _ p => p.same fun o e => f a o e, h.nd, h.vn, h.pn⟩
theorem Went.same (f : Same H H') : Went R H R H' := ⟨rfl, fun b o e _ => f b o e, fun b h => .inl h⟩
theorem Went.refl : Went R H R H := .same (Same.refl _)
/-- what the plant is made of is there -/
theorem Rep.there (h : Rep t R s H) {b : Addr} (f : Foot R b) : ∃ o, H b = some o := by
  rcases f with rfl | rfl | rfl | rfl | rfl | rfl | m | m
  · exact ⟨_, h.pl⟩
  · exact ⟨_, h.lf⟩
  · exact ⟨_, h.lp⟩
  · exact ⟨_, h.lv⟩
  · exact ⟨_, h.lo⟩
  · exact ⟨_, h.lu⟩
  · obtain ⟨x, dx, e⟩ := h.vs.mem m
    exact ⟨_, e⟩
  · obtain ⟨x, dx, e⟩ := h.ps.mem m
    exact ⟨_, e⟩
theorem Rep.off (h : Rep t R s H) {b : Addr} (e : H b = none) : ¬ Foot R b := fun f => by
  obtain ⟨o, q⟩ := h.there f
  rw [e] at q
  cases q
theorem _root_.L2.Same.new {p : Addr} {o : HO} (e : H p = none) : Same H (upd H p o) := fun b u q => by
  rw [upd_ne (ne_of_none q e)]
  exact q
theorem _root_.L2.Same.free' (f : Same H H') {p : Addr} (e : H' p = none) : H p = none := f.free e
theorem But.same {p : Addr} {H0 : Hp} (e : H0 p = none) (f : Same H0 H) (b : But p H H') : Same H0 H' := fun c o q => b c o (f c o q) (ne_of_none q e)
theorem But.refl {p : Addr} : But p H H := fun b o e _ => e
theorem But.upd {p : Addr} {o : HO} : But p H (L2.upd H p o) := fun b u e n => by rw [upd_ne n]; exact e
theorem But.trans {p : Addr} {H2 : Hp} (a : But p H H') (b : But p H' H2) : But p H H2 := fun c o e n => b c o (a c o e n) n
end
/-! ### reading attributes -/
section
variable {K : PySem.W.Frag} {mg : Str → Option Value} {t : Adr} {H : Hp} {Q : VK} {a : Addr}
theorem rd_V_a (T : Txt K mg t) {x : Va} (h : VaAt t H a x) (q : Q (.int x.a) H) : FldR K (.ref a) "a" H Q := by
  obtain ⟨dx, h⟩ := h
  exact ⟨a, _, dx, _, _, rfl, h, T.c_Valve, T.n_Valve_a, rfl, q⟩
theorem rd_V_b (T : Txt K mg t) {x : Va} (h : VaAt t H a x) (q : Q (.int x.b) H) : FldR K (.ref a) "b" H Q := by
  obtain ⟨dx, h⟩ := h
  exact ⟨a, _, dx, _, _, rfl, h, T.c_Valve, T.n_Valve_b, rfl, q⟩
theorem rd_V_travel (T : Txt K mg t) {x : Va} (h : VaAt t H a x) (q : Q (.int x.travel) H) : FldR K (.ref a) "travel" H Q := by
  obtain ⟨dx, h⟩ := h
  exact ⟨a, _, dx, _, _, rfl, h, T.c_Valve, T.n_Valve_travel, rfl, q⟩
theorem rd_V_place (T : Txt K mg t) {x : Va} (h : VaAt t H a x) (q : Q (.int x.place) H) : FldR K (.ref a) "place" H Q := by
  obtain ⟨dx, h⟩ := h
  exact ⟨a, _, dx, _, _, rfl, h, T.c_Valve, T.n_Valve_place, rfl, q⟩
theorem rd_V_up (T : Txt K mg t) {x : Va} (h : VaAt t H a x) (q : Q (.bl x.up) H) : FldR K (.ref a) "up" H Q := by
  obtain ⟨dx, h⟩ := h
  exact ⟨a, _, dx, _, _, rfl, h, T.c_Valve, T.n_Valve_up, rfl, q⟩
theorem rd_P_a (T : Txt K mg t) {x : Pu} (h : PuAt t H a x) (q : Q (.int x.a) H) : FldR K (.ref a) "a" H Q := by
  obtain ⟨dx, h⟩ := h
  exact ⟨a, _, dx, _, _, rfl, h, T.c_Pump, T.n_Pump_a, rfl, q⟩
theorem rd_P_b (T : Txt K mg t) {x : Pu} (h : PuAt t H a x) (q : Q (.int x.b) H) : FldR K (.ref a) "b" H Q := by
  obtain ⟨dx, h⟩ := h
  exact ⟨a, _, dx, _, _, rfl, h, T.c_Pump, T.n_Pump_b, rfl, q⟩
theorem rd_P_den (T : Txt K mg t) {x : Pu} (h : PuAt t H a x) (q : Q (.int x.den) H) : FldR K (.ref a) "den" H Q := by
  obtain ⟨dx, h⟩ := h
  exact ⟨a, _, dx, _, _, rfl, h, T.c_Pump, T.n_Pump_den, rfl, q⟩
theorem rd_P_stroke (T : Txt K mg t) {x : Pu} (h : PuAt t H a x) (q : Q (.int x.stroke) H) : FldR K (.ref a) "stroke" H Q := by
  obtain ⟨dx, h⟩ := h
  exact ⟨a, _, dx, _, _, rfl, h, T.c_Pump, T.n_Pump_stroke, rfl, q⟩
theorem rd_P_slope (T : Txt K mg t) {x : Pu} (h : PuAt t H a x) (q : Q (.int x.slope) H) : FldR K (.ref a) "slope" H Q := by
  obtain ⟨dx, h⟩ := h
  exact ⟨a, _, dx, _, _, rfl, h, T.c_Pump, T.n_Pump_slope, rfl, q⟩
theorem rd_P_per (T : Txt K mg t) {x : Pu} (h : PuAt t H a x) (q : Q (.int x.per) H) : FldR K (.ref a) "per" H Q := by
  obtain ⟨dx, h⟩ := h
  exact ⟨a, _, dx, _, _, rfl, h, T.c_Pump, T.n_Pump_per, rfl, q⟩
theorem rd_P_tol (T : Txt K mg t) {x : Pu} (h : PuAt t H a x) (q : Q (.int x.tol) H) : FldR K (.ref a) "tol" H Q := by
  obtain ⟨dx, h⟩ := h
  exact ⟨a, _, dx, _, _, rfl, h, T.c_Pump, T.n_Pump_tol, rfl, q⟩
theorem rd_P_target (T : Txt K mg t) {x : Pu} (h : PuAt t H a x) (q : Q (.int x.target) H) : FldR K (.ref a) "target" H Q := by
  obtain ⟨dx, h⟩ := h
  exact ⟨a, _, dx, _, _, rfl, h, T.c_Pump, T.n_Pump_target, rfl, q⟩
theorem rd_P_speed (T : Txt K mg t) {x : Pu} (h : PuAt t H a x) (q : Q (.int x.speed) H) : FldR K (.ref a) "speed" H Q := by
  obtain ⟨dx, h⟩ := h
  exact ⟨a, _, dx, _, _, rfl, h, T.c_Pump, T.n_Pump_speed, rfl, q⟩
theorem rd_P_gathered (T : Txt K mg t) {x : Pu} (h : PuAt t H a x) (q : Q (.int x.acc) H) : FldR K (.ref a) "gathered" H Q := by
  obtain ⟨dx, h⟩ := h
  exact ⟨a, _, dx, _, _, rfl, h, T.c_Pump, T.n_Pump_gathered, rfl, q⟩
theorem rd_P_position (T : Txt K mg t) {x : Pu} (h : PuAt t H a x) (q : Q (.int x.pos) H) : FldR K (.ref a) "position" H Q := by
  obtain ⟨dx, h⟩ := h
  exact ⟨a, _, dx, _, _, rfl, h, T.c_Pump, T.n_Pump_position, rfl, q⟩
theorem rd_P_moved (T : Txt K mg t) {x : Pu} (h : PuAt t H a x) (q : Q (.int x.moved) H) : FldR K (.ref a) "moved" H Q := by
  obtain ⟨dx, h⟩ := h
  exact ⟨a, _, dx, _, _, rfl, h, T.c_Pump, T.n_Pump_moved, rfl, q⟩
theorem rd_P_bad (T : Txt K mg t) {x : Pu} (h : PuAt t H a x) (q : Q (.int x.bad) H) : FldR K (.ref a) "bad" H Q := by
  obtain ⟨dx, h⟩ := h
  exact ⟨a, _, dx, _, _, rfl, h, T.c_Pump, T.n_Pump_bad, rfl, q⟩
theorem rd_P_fault (T : Txt K mg t) {x : Pu} (h : PuAt t H a x) (q : Q (.int x.fault) H) : FldR K (.ref a) "fault" H Q := by
  obtain ⟨dx, h⟩ := h
  exact ⟨a, _, dx, _, _, rfl, h, T.c_Pump, T.n_Pump_fault, rfl, q⟩
theorem rd_net (T : Txt K mg t) {R : Root} {s : Ss} (h : Rep t R s H) (q : Q (.ref R.nt) H) : FldR K (.ref R.pl) "net" H Q := ⟨_, _, _, _, _, rfl, h.pl, T.c_Plant, T.n_Plant_net, rfl, q⟩
theorem rd_pumps (T : Txt K mg t) {R : Root} {s : Ss} (h : Rep t R s H) (q : Q (.ref R.lu) H) : FldR K (.ref R.pl) "pumps" H Q := ⟨_, _, _, _, _, rfl, h.pl, T.c_Plant, T.n_Plant_pumps, rfl, q⟩
theorem rd_clock (T : Txt K mg t) {R : Root} {s : Ss} (h : Rep t R s H) (q : Q (.int s.tick) H) : FldR K (.ref R.pl) "clock" H Q := ⟨_, _, _, _, _, rfl, h.pl, T.c_Plant, T.n_Plant_clock, rfl, q⟩
theorem rd_flags (T : Txt K mg t) {R : Root} {s : Ss} (h : Rep t R s H) (q : Q (.ref R.lf) H) : FldR K (.ref R.nt) "flags" H Q := ⟨_, _, _, _, _, rfl, h.nt, T.c_Net, T.n_Net_flags, rfl, q⟩
theorem rd_pipes (T : Txt K mg t) {R : Root} {s : Ss} (h : Rep t R s H) (q : Q (.ref R.lp) H) : FldR K (.ref R.nt) "pipes" H Q := ⟨_, _, _, _, _, rfl, h.nt, T.c_Net, T.n_Net_pipes, rfl, q⟩
theorem rd_valves (T : Txt K mg t) {R : Root} {s : Ss} (h : Rep t R s H) (q : Q (.ref R.lv) H) : FldR K (.ref R.nt) "valves" H Q := ⟨_, _, _, _, _, rfl, h.nt, T.c_Net, T.n_Net_valves, rfl, q⟩
theorem rd_forbidden (T : Txt K mg t) {R : Root} {s : Ss} (h : Rep t R s H) (q : Q (.ref R.lo) H) : FldR K (.ref R.nt) "forbidden" H Q := ⟨_, _, _, _, _, rfl, h.nt, T.c_Net, T.n_Net_forbidden, rfl, q⟩
end
end Pn

set_option Elab.async false
set_option linter.all false
set_option maxRecDepth 100000
set_option maxHeartbeats 2000000
namespace Pn
open PySem PySem.Spec PyProof.Rows L2
section
variable {P : Program} {w : World} {K : PySem.W.Frag} {mg : Str → Option Value} {base : Heap} {t : Adr}
/-- an attribute is stored -/
theorem st_of {K : PySem.W.Frag} {H : Hp} {a C dx : Addr} {fs fs' : List (Str × V)} {f : Str} {y : V} {N : Hp → Prop} (h : H a = some (.ins C dx fs)) (c : Cls K C) (n : NoAttr K C f) (l : fs.length ≤ 20) (e : putF f y fs = fs')
    (q : ∀ H', H' a = some (.ins C dx fs') → But a H H' → N H') : ∃ a' C dx fs, V.ref a = .ref a' ∧ H a' = some (.ins C dx fs) ∧ Cls K C ∧ NoAttr K C f ∧ fs.length < 1000 ∧ N (upd H a' (.ins C dx (putF f y fs))) :=
  ⟨a, C, dx, fs, rfl, h, c, n, Nat.lt_of_le_of_lt l (by decide), by rw [e]; exact q _ upd_same But.upd⟩
/-! ### Valve -/
def sp_Valve_init (t : Adr) : Sp := fun vs H Q _ => ∃ (p dx : Addr) (a b tr : Nat), vs = [.ref p, .int a, .int b, .int tr] ∧ H p = some (.ins t.cV dx []) ∧ ∀ H', VaAt t H' p ⟨a, b, tr, 0, false⟩ → But p H H' → Q .non H'
theorem g_Valve_init (T : Txt K mg t) : GMk P w K mg base 1 t.cV "Valve" ["self", "a", "b", "travel"] (sp_Valve_init t) := by
  refine T.f_Valve_init.ok sc_Valve_init bn_Valve_init ?len ?body
  case len =>
    intro vs H Q E h
    obtain ⟨p, dx, a, b, tr, rfl, _⟩ := h
    rfl
  case body =>
    intro f cdv A outer s H vs Q E hr h
    obtain ⟨p, dx, a, b, tr, rfl, hp, k⟩ := h
    refine ⟨_, (pss_cons (ps_fld (pv 0) (pv 1) rfl)
      (pss_cons (ps_fld (pv 0) (pv 2) rfl)
      (pss_cons (ps_fld (pv 0) (pv 3) rfl)
      (pss_cons (ps_fld (pv 0) pe_int rfl)
      (pss_one (ps_fld (pv 0) pe_bl rfl)))))), ?_⟩
    refine ⟨_, rfl, _, rfl, st_of hp T.c_Valve T.n_Valve_a (by decide) rfl fun H1 e1 b1 => ?_⟩
    refine ⟨_, rfl, _, rfl, st_of e1 T.c_Valve T.n_Valve_b (by show 1 ≤ 20; decide) rfl fun H2 e2 b2 => ?_⟩
    refine ⟨_, rfl, _, rfl, st_of e2 T.c_Valve T.n_Valve_travel (by show 2 ≤ 20; decide) rfl fun H3 e3 b3 => ?_⟩
    refine ⟨_, rfl, st_of e3 T.c_Valve T.n_Valve_place (by show 3 ≤ 20; decide) rfl fun H4 e4 b4 => ?_⟩
    refine ⟨_, rfl, st_of e4 T.c_Valve T.n_Valve_up (by show 4 ≤ 20; decide) rfl fun H5 e5 b5 => ?_⟩
    exact k H5 ⟨dx, e5⟩ (b1.trans (b2.trans (b3.trans (b4.trans b5))))
def sp_Valve_counts_as_open (t : Adr) : Sp := fun vs H Q _ => ∃ (p : Addr) (v : Va), vs = [.ref p] ∧ VaAt t H p v ∧ Q (.bl (Vbdlad.counts v)) H
theorem g_Valve_counts_as_open (T : Txt K mg t) : GMe P w K mg base 1 t.cV "counts_as_open" ["self"] (sp_Valve_counts_as_open t) := by
  refine T.f_Valve_counts_as_open.ok sc_Valve_counts_as_open bn_Valve_counts_as_open ?len ?body
  case len =>
    intro vs H Q E h
    obtain ⟨p, v, rfl, _⟩ := h
    rfl
  case body =>
    intro f cdv A outer s H vs Q E hr h
    obtain ⟨p, v, rfl, hv, k⟩ := h
    refine ⟨_, (pss_one (ps_ret (pe_or (pe_at (pv 0)) (pe_one (pe_cmpR op_gt (pe_at (pv 0)) pe_int (nomark _)))))), ?_⟩
    refine ⟨_, rfl, rd_V_up T hv ⟨_, rfl, ?_⟩⟩
    refine ite2 (fun e => ?_) (fun e => ?_)
    · have e2 : Vbdlad.counts v = true := by unfold Vbdlad.counts; rw [e]; rfl
      rw [e2] at k
      exact k
    · refine ⟨_, rfl, rd_V_place T hv ⟨_, _, rfl, rfl, ?_⟩⟩
      have e2 : Vbdlad.counts v = decide ((0 : Int) < (v.place : Int)) := by
        unfold Vbdlad.counts
        rw [Bool.eq_false_iff.mpr e, Bool.false_or]
        exact decide_eq_decide.mpr (by omega)
      rw [e2] at k
      exact k
end
end Pn

set_option Elab.async false
set_option linter.all false
set_option maxRecDepth 100000
set_option maxHeartbeats 2000000
namespace Pn
open PySem PySem.Spec PyProof.Rows L2
section
variable {P : Program} {w : World} {K : PySem.W.Frag} {mg : Str → Option Value} {base : Heap} {t : Adr}
theorem st_V {H : Hp} {a : Addr} {f : Str} {y : V} {v v' : Va} {N : Hp → Prop} (T : Txt K mg t) (h : VaAt t H a v) (n : NoAttr K t.cV f) (e : putF f y (vf v) = vf v') (q : ∀ H', VaAt t H' a v' → But a H H' → N H') :
    ∃ a' C dx fs, V.ref a = .ref a' ∧ H a' = some (.ins C dx fs) ∧ Cls K C ∧ NoAttr K C f ∧ fs.length < 1000 ∧ N (upd H a' (.ins C dx (putF f y fs))) := by
  obtain ⟨dx, h⟩ := h
  exact st_of h T.c_Valve n (by show 5 ≤ 20; decide) e fun H' e' b => q H' ⟨dx, e'⟩ b
theorem st_P {H : Hp} {a : Addr} {f : Str} {y : V} {v v' : Pu} {N : Hp → Prop} (T : Txt K mg t) (h : PuAt t H a v) (n : NoAttr K t.cP f) (e : putF f y (pf v) = pf v') (q : ∀ H', PuAt t H' a v' → But a H H' → N H') :
    ∃ a' C dx fs, V.ref a = .ref a' ∧ H a' = some (.ins C dx fs) ∧ Cls K C ∧ NoAttr K C f ∧ fs.length < 1000 ∧ N (upd H a' (.ins C dx (putF f y fs))) := by
  obtain ⟨dx, h⟩ := h
  exact st_of h T.c_Pump n (by show 14 ≤ 20; decide) e fun H' e' b => q H' ⟨dx, e'⟩ b
/-- behind a store to a pump -/
theorem nx_P {H : Hp} {a dx : Addr} {f : Str} {z : V} {v v' : Pu} {N : Hp → Prop} (e : putF f z (pf v) = pf v') (q : ∀ H', PuAt t H' a v' → But a H H' → N H') : N (upd H a (.ins t.cP dx (putF f z (pf v)))) := by
  rw [e]
  exact q _ ⟨dx, upd_same⟩ But.upd
theorem pfl (x : Pu) : (pf x).length < 1000 := by show 14 < 1000; decide
/-- a method of a valve, of a pump -/
theorem me_V {H : Hp} {a : Addr} {m : Str} {v : Va} {N : Prop} (h : VaAt t H a v) (q : N) (l : (vf v).lookup m = none := by rfl) : ∃ a' dx fs, V.ref a = .ref a' ∧ H a' = some (.ins t.cV dx fs) ∧ fs.lookup m = none ∧ N := by
  obtain ⟨dx, h⟩ := h
  exact ⟨a, dx, _, rfl, h, l, q⟩
theorem me_P {H : Hp} {a : Addr} {m : Str} {v : Pu} {N : Prop} (h : PuAt t H a v) (q : N) (l : (pf v).lookup m = none := by rfl) : ∃ a' dx fs, V.ref a = .ref a' ∧ H a' = some (.ins t.cP dx fs) ∧ fs.lookup m = none ∧ N := by
  obtain ⟨dx, h⟩ := h
  exact ⟨a, dx, _, rfl, h, l, q⟩
theorem me_N {H : Hp} {R : Root} {s : Ss} {m : Str} {N : Prop} (h : Rep t R s H) (q : N) (l : (nf R.lf R.lp R.lv R.lo).lookup m = none := by rfl) : ∃ a' dx fs, V.ref R.nt = .ref a' ∧ H a' = some (.ins t.cN dx fs) ∧ fs.lookup m = none ∧ N := ⟨_, _, _, rfl, h.nt, l, q⟩
theorem me_L {H : Hp} {R : Root} {s : Ss} {m : Str} {N : Prop} (h : Rep t R s H) (q : N) (l : (lf R.nt R.lu s.tick).lookup m = none := by rfl) : ∃ a' dx fs, V.ref R.pl = .ref a' ∧ H a' = some (.ins t.cL dx fs) ∧ fs.lookup m = none ∧ N := ⟨_, _, _, rfl, h.pl, l, q⟩
def sp_Valve_move (t : Adr) : Sp := fun vs H Q _ => ∃ (p : Addr) (v : Va), vs = [.ref p] ∧ VaAt t H p v ∧ ∀ H', VaAt t H' p (Vbdlad.moveValve v) → But p H H' → Q .non H'
theorem g_Valve_move (T : Txt K mg t) : GMe P w K mg base 1 t.cV "move" ["self"] (sp_Valve_move t) := by
  refine T.f_Valve_move.ok sc_Valve_move bn_Valve_move ?len ?body
  case len =>
    intro vs H Q E h
    obtain ⟨p, v, rfl, _⟩ := h
    rfl
  case body =>
    intro f cdv A outer s H vs Q E hr h
    obtain ⟨p, v, rfl, hv, k⟩ := h
    refine ⟨_, (pss_one (ps_if (pt_val (pe_at (pv 0))) (pss_one (ps_fld (pv 0) (pe_blt (call_min2 rfl) rfl T.b_min PyProof.Rows.boot_min (pac (pe_op op_add (pe_at (pv 0)) pe_int) (pac (pe_at (pv 0)) pa_nil))) rfl)) (pss_one (ps_fld (pv 0) (pe_blt (call_max2 rfl) rfl T.b_max PyProof.Rows.boot_max (pac (pe_op op_sub (pe_at (pv 0)) pe_int) (pac pe_int pa_nil))) rfl)))), ?_⟩
    refine ⟨_, rfl, rd_V_up T hv ⟨_, rfl, ?_⟩⟩
    refine ite2 (fun e => ?_) (fun e => ?_)
    · refine ⟨_, rfl, rd_V_place T hv ⟨_, _, rfl, rfl, ⟨_, rfl, rd_V_travel T hv ⟨_, _, rfl, _, rfl, ?_⟩⟩⟩⟩
      refine st_V T hv T.n_Valve_place (v' := Vbdlad.moveValve v) ?_ fun H' h' b' => k H' h' b'
      have e2 : Vbdlad.moveValve v = { v with place := min (v.place + 1) v.travel } := by unfold Vbdlad.moveValve; rw [if_pos e]
      have e3 : (if (v.travel : Int) < (v.place : Int) + 1 then (v.travel : Int) else (v.place : Int) + 1) = ((min (v.place + 1) v.travel : Nat) : Int) := by
        split <;> omega
      rw [e2, e3]
      rfl
    · refine ⟨_, rfl, rd_V_place T hv ⟨_, _, rfl, rfl, _, _, rfl, _, rfl, ?_⟩⟩
      refine st_V T hv T.n_Valve_place (v' := Vbdlad.moveValve v) ?_ fun H' h' b' => k H' h' b'
      have e2 : Vbdlad.moveValve v = { v with place := v.place - 1 } := by unfold Vbdlad.moveValve; rw [if_neg e]
      have e3 : (if (0 : Int) > (v.place : Int) - 1 then (0 : Int) else (v.place : Int) - 1) = ((v.place - 1 : Nat) : Int) := by
        split <;> omega
      rw [e2, e3]
      rfl
/-! ### Pump -/
def sp_Pump_init (t : Adr) : Sp := fun vs H Q _ => ∃ (p dx : Addr) (a b d k l e o : Nat), vs = [.ref p, .int a, .int b, .int d, .int k, .int l, .int e, .int o] ∧ H p = some (.ins t.cP dx []) ∧ ∀ H', PuAt t H' p ⟨a, b, d, k, l, e, o, 0, 0, 0, 0, 0, 0, 0⟩ → But p H H' → Q .non H'
theorem g_Pump_init (T : Txt K mg t) : GMk P w K mg base 1 t.cP "Pump" ["self", "a", "b", "den", "stroke", "slope", "per", "tol"] (sp_Pump_init t) := by
  refine T.f_Pump_init.ok sc_Pump_init bn_Pump_init ?len ?body
  case len =>
    intro vs H Q E h
    obtain ⟨p, dx, a, b, d, k, l, e, o, rfl, _⟩ := h
    rfl
  case body =>
    intro f cdv A outer s H vs Q E hr h
    obtain ⟨p, dx, a, b, d, k, l, e, o, rfl, hp, q⟩ := h
    refine ⟨_, (pss_cons (ps_fld (pv 0) (pv 1) rfl)
      (pss_cons (ps_fld (pv 0) (pv 2) rfl)
      (pss_cons (ps_fld (pv 0) (pv 3) rfl)
      (pss_cons (ps_fld (pv 0) (pv 4) rfl)
      (pss_cons (ps_fld (pv 0) (pv 5) rfl)
      (pss_cons (ps_fld (pv 0) (pv 6) rfl)
      (pss_cons (ps_fld (pv 0) (pv 7) rfl)
      (pss_cons (ps_fld (pv 0) pe_int rfl)
      (pss_cons (ps_fld (pv 0) pe_int rfl)
      (pss_cons (ps_fld (pv 0) pe_int rfl)
      (pss_cons (ps_fld (pv 0) pe_int rfl)
      (pss_cons (ps_fld (pv 0) pe_int rfl)
      (pss_cons (ps_fld (pv 0) pe_int rfl)
      (pss_one (ps_fld (pv 0) pe_int rfl))))))))))))))), ?_⟩
    refine ⟨_, rfl, _, rfl, st_of hp T.c_Pump T.n_Pump_a (by decide) rfl fun H1 e1 b1 => ?_⟩
    refine ⟨_, rfl, _, rfl, st_of e1 T.c_Pump T.n_Pump_b (by show 1 ≤ 20; decide) rfl fun H2 e2 b2 => ?_⟩
    refine ⟨_, rfl, _, rfl, st_of e2 T.c_Pump T.n_Pump_den (by show 2 ≤ 20; decide) rfl fun H3 e3 b3 => ?_⟩
    refine ⟨_, rfl, _, rfl, st_of e3 T.c_Pump T.n_Pump_stroke (by show 3 ≤ 20; decide) rfl fun H4 e4 b4 => ?_⟩
    refine ⟨_, rfl, _, rfl, st_of e4 T.c_Pump T.n_Pump_slope (by show 4 ≤ 20; decide) rfl fun H5 e5 b5 => ?_⟩
    refine ⟨_, rfl, _, rfl, st_of e5 T.c_Pump T.n_Pump_per (by show 5 ≤ 20; decide) rfl fun H6 e6 b6 => ?_⟩
    refine ⟨_, rfl, _, rfl, st_of e6 T.c_Pump T.n_Pump_tol (by show 6 ≤ 20; decide) rfl fun H7 e7 b7 => ?_⟩
    refine ⟨_, rfl, st_of e7 T.c_Pump T.n_Pump_target (by show 7 ≤ 20; decide) rfl fun H8 e8 b8 => ?_⟩
    refine ⟨_, rfl, st_of e8 T.c_Pump T.n_Pump_speed (by show 8 ≤ 20; decide) rfl fun H9 e9 b9 => ?_⟩
    refine ⟨_, rfl, st_of e9 T.c_Pump T.n_Pump_gathered (by show 9 ≤ 20; decide) rfl fun H10 e10 b10 => ?_⟩
    refine ⟨_, rfl, st_of e10 T.c_Pump T.n_Pump_position (by show 10 ≤ 20; decide) rfl fun H11 e11 b11 => ?_⟩
    refine ⟨_, rfl, st_of e11 T.c_Pump T.n_Pump_moved (by show 11 ≤ 20; decide) rfl fun H12 e12 b12 => ?_⟩
    refine ⟨_, rfl, st_of e12 T.c_Pump T.n_Pump_bad (by show 12 ≤ 20; decide) rfl fun H13 e13 b13 => ?_⟩
    refine ⟨_, rfl, st_of e13 T.c_Pump T.n_Pump_fault (by show 13 ≤ 20; decide) rfl fun H14 e14 b14 => ?_⟩
    exact q H14 ⟨dx, e14⟩ (b1.trans (b2.trans (b3.trans (b4.trans (b5.trans (b6.trans (b7.trans (b8.trans (b9.trans (b10.trans (b11.trans (b12.trans (b13.trans b14)))))))))))))
def sp_Pump_next_speed (t : Adr) : Sp := fun vs H Q _ => ∃ (p : Addr) (x : Pu), vs = [.ref p] ∧ PuAt t H p x ∧ Q (.int (Vbdlad.nearer x)) H
theorem g_Pump_next_speed (T : Txt K mg t) : GMe P w K mg base 1 t.cP "next_speed" ["self"] (sp_Pump_next_speed t) := by
  refine T.f_Pump_next_speed.ok sc_Pump_next_speed bn_Pump_next_speed ?len ?body
  case len =>
    intro vs H Q E h
    obtain ⟨p, v, rfl, _⟩ := h
    rfl
  case body =>
    intro f cdv A outer s H vs Q E hr h
    obtain ⟨p, x, rfl, hx, k⟩ := h
    refine ⟨_, (pss_cons (ps_if (pt_cmpR op_gt (pe_at (pv 0)) (pe_at (pv 0)) (nomark _)) (pss_one (ps_ret (pe_blt (call_min2 rfl) rfl T.b_min PyProof.Rows.boot_min (pac (pe_op op_add (pe_at (pv 0)) (pe_at (pv 0))) (pac (pe_at (pv 0)) pa_nil))))) pss_nil)
      (pss_one (ps_ret (pe_blt (call_max2 rfl) rfl T.b_max PyProof.Rows.boot_max (pac (pe_op op_sub (pe_at (pv 0)) (pe_at (pv 0))) (pac (pe_at (pv 0)) pa_nil)))))), ?_⟩
    refine ⟨_, rfl, rd_P_target T hx ⟨_, rfl, rd_P_speed T hx ⟨_, _, rfl, rfl, _, rfl, ?_⟩⟩⟩
    refine ite2 (fun e => ?_) (fun e => ?_)
    · refine ⟨_, rfl, rd_P_speed T hx ⟨_, rfl, rd_P_slope T hx ⟨_, _, rfl, rfl, ⟨_, rfl, rd_P_target T hx ⟨_, _, rfl, ?_⟩⟩⟩⟩⟩
      have e0 := of_decide_eq_true e
      have e2 : Vbdlad.nearer x = if x.target < x.speed + (x.slope : Int) then x.target else x.speed + (x.slope : Int) := by
        unfold Vbdlad.nearer
        rw [if_pos (by omega)]
        split <;> omega
      rw [e2] at k
      exact k
    · refine ⟨_, rfl, rd_P_speed T hx ⟨_, rfl, rd_P_slope T hx ⟨_, _, rfl, rfl, ⟨_, rfl, rd_P_target T hx ⟨_, _, rfl, ?_⟩⟩⟩⟩⟩
      have e0 : ¬ x.speed < x.target := fun z => e (decide_eq_true z)
      have e2 : Vbdlad.nearer x = if x.target > x.speed - (x.slope : Int) then x.target else x.speed - (x.slope : Int) := by
        unfold Vbdlad.nearer
        by_cases z : x.speed ≤ x.target
        · rw [if_pos z]
          split <;> omega
        · rw [if_neg z]
          split <;> omega
      rw [e2] at k
      exact k
def sp_Pump_fail (t : Adr) : Sp := fun vs H Q _ => ∃ (p : Addr) (x : Pu) (n : Nat), vs = [.ref p, .int n] ∧ PuAt t H p x ∧ ∀ H', PuAt t H' p (Vbdlad.halted x n) → But p H H' → Q .non H'
theorem g_Pump_fail (T : Txt K mg t) : GMe P w K mg base 1 t.cP "fail" ["self", "fault"] (sp_Pump_fail t) := by
  refine T.f_Pump_fail.ok sc_Pump_fail bn_Pump_fail ?len ?body
  case len =>
    intro vs H Q E h
    obtain ⟨p, v, n, rfl, _⟩ := h
    rfl
  case body =>
    intro f cdv A outer s H vs Q E hr h
    obtain ⟨p, x, n, rfl, hx, k⟩ := h
    refine ⟨_, (pss_cons (ps_fld (pv 0) pe_int rfl)
      (pss_cons (ps_fld (pv 0) pe_int rfl)
      (pss_one (ps_fld (pv 0) (pv 1) rfl)))), ?_⟩
    refine ⟨_, rfl, st_P T hx T.n_Pump_target (v' := { x with target := 0 }) rfl fun H1 h1 b1 => ?_⟩
    refine ⟨_, rfl, st_P T h1 T.n_Pump_speed (v' := { x with target := 0, speed := 0 }) rfl fun H2 h2 b2 => ?_⟩
    refine ⟨_, rfl, _, rfl, st_P T h2 T.n_Pump_fault (v' := Vbdlad.halted x n) rfl fun H3 h3 b3 => ?_⟩
    exact k H3 h3 (b1.trans (b2.trans b3))
def stepped (d : Int) (x : Pu) : Pu := { x with acc := x.acc - d * (x.den : Int), pos := x.pos + d, moved := x.moved + 1 }
def sp_Pump_step (t : Adr) : Sp := fun vs H Q _ => ∃ (p : Addr) (x : Pu) (d : Int), vs = [.ref p, .int d] ∧ PuAt t H p x ∧ (d = 1 ∨ d = -1) ∧ ∀ H', PuAt t H' p (stepped d x) → But p H H' → Q .non H'
theorem g_Pump_step (T : Txt K mg t) : GMe P w K mg base 1 t.cP "step" ["self", "direction"] (sp_Pump_step t) := by
  refine T.f_Pump_step.ok sc_Pump_step bn_Pump_step ?len ?body
  case len =>
    intro vs H Q E h
    obtain ⟨p, v, n, rfl, _⟩ := h
    rfl
  case body =>
    intro f cdv A outer s H vs Q E hr h
    obtain ⟨p, x, d, rfl, hx, hd, k⟩ := h
    refine ⟨_, (pss_cons (ps_fldaug (pv 0) (pe_op op_mul (pv 1) (pe_at (pv 0))) in_sub)
      (pss_cons (ps_fldaug (pv 0) (pv 1) in_add)
      (pss_one (ps_fldaug (pv 0) pe_int in_add)))), ?_⟩
    obtain ⟨dx, hx⟩ := hx
    refine ⟨_, rfl, _, _, dx, _, _, rfl, hx, T.c_Pump, T.n_Pump_gathered, rfl, _, rfl, _, rfl, rd_P_den T ⟨dx, hx⟩ ⟨_, _, rfl, rfl, .inl (by rcases hd with rfl | rfl <;> decide), _, _, rfl, rfl, dx, _, hx, pfl x, ?_⟩⟩
    refine nx_P (v' := { x with acc := x.acc - d * (x.den : Int) }) rfl fun H1 ⟨dx1, h1⟩ b1 => ?_
    refine ⟨_, rfl, _, _, dx1, _, _, rfl, h1, T.c_Pump, T.n_Pump_position, rfl, _, rfl, _, _, rfl, rfl, dx1, _, h1, pfl _, ?_⟩
    refine nx_P (v' := { x with acc := x.acc - d * (x.den : Int), pos := x.pos + d }) rfl fun H2 ⟨dx2, h2⟩ b2 => ?_
    refine ⟨_, rfl, _, _, dx2, _, _, rfl, h2, T.c_Pump, T.n_Pump_moved, rfl, _, _, rfl, rfl, dx2, _, h2, pfl _, ?_⟩
    refine nx_P (v' := stepped d x) rfl fun H3 h3 b3 => ?_
    exact k H3 h3 (b1.trans (b2.trans b3))
end
end Pn

set_option Elab.async false
set_option linter.all false
set_option maxRecDepth 100000
set_option maxHeartbeats 2000000
namespace Pn
open PySem PySem.Spec PyProof.Rows L2
section
variable {P : Program} {w : World} {K : PySem.W.Frag} {mg : Str → Option Value} {base : Heap} {t : Adr}
theorem bl_at {l : List Bool} {a : Nat} (h : a < l.length) : (l.map V.bl)[a]? = some (.bl (l.getD a false)) := by simp [List.getD_eq_getElem?_getD, h]
theorem me_F {H : Hp} {a : Addr} {m : Str} {fe dr : List Bool} {N : Prop} (h : FlAt t H a fe dr) (q : N) (l : ∀ x y, (ff x y).lookup m = none := by intro _ _; rfl) : ∃ a' dx fs, V.ref a = .ref a' ∧ H a' = some (.ins t.cF dx fs) ∧ fs.lookup m = none ∧ N := by
  obtain ⟨dx, x, y, h, _⟩ := h
  exact ⟨a, dx, _, rfl, h, l x y, q⟩
def sp_Flow_passes (t : Adr) : Sp := fun vs H Q _ => ∃ (p : Addr) (fe dr : List Bool) (a b : Nat), vs = [.ref p, .int a, .int b] ∧ FlAt t H p fe dr ∧ a < fe.length ∧ b < dr.length ∧ Q (.bl (fe.getD a false && dr.getD b false)) H
theorem g_Flow_passes (T : Txt K mg t) : GMe P w K mg base 1 t.cF "passes" ["self", "a", "b"] (sp_Flow_passes t) := by
  refine T.f_Flow_passes.ok sc_Flow_passes bn_Flow_passes ?len ?body
  case len =>
    intro vs H Q E h
    obtain ⟨p, fe, dr, a, b, rfl, _⟩ := h
    rfl
  case body =>
    intro f cdv A outer s H vs Q E hr h
    obtain ⟨p, fe, dr, a, b, rfl, ⟨dx, x, y, h, hx, hy⟩, ha, hb, k⟩ := h
    refine ⟨_, (pss_one (ps_ret (pe_and (pe_ix ix_list (pe_at (pv 0)) (pv 1) (fun _ _ => rfl)) (pe_one (pe_ix ix_list (pe_at (pv 0)) (pv 2) (fun _ _ => rfl)))))), ?_⟩
    refine ⟨_, rfl, ⟨_, _, _, _, _, rfl, h, T.c_Flow, T.n_Flow_fed, rfl, ⟨_, rfl, ⟨_, _, _, _, rfl, rfl, SqL.of hx, at_of rfl (bl_at ha), _, rfl, ?_⟩⟩⟩⟩
    refine ite2 (fun e => ?_) (fun e => ?_)
    · refine ⟨_, rfl, ⟨_, _, _, _, _, rfl, h, T.c_Flow, T.n_Flow_drained, rfl, ⟨_, rfl, ⟨_, _, _, _, rfl, rfl, SqL.of hy, at_of rfl (bl_at hb), ?_⟩⟩⟩⟩
      rw [e, Bool.true_and] at k
      exact k
    · rw [Bool.eq_false_iff.mpr e, Bool.false_and] at k
      exact k
def canGo (fe dr : List Bool) (z : Int) (x : Pu) : Bool := if 0 < z then fe.getD x.a false && dr.getD x.b false else if z < 0 then fe.getD x.b false && dr.getD x.a false else true
/-- the pump's nodes have their place in the flow -/
structure InFlow (fe dr : List Bool) (x : Pu) : Prop where
  a1 : x.a < fe.length
  b1 : x.b < fe.length
  a2 : x.a < dr.length
  b2 : x.b < dr.length
def sp_Pump_can_go (t : Adr) : Sp := fun vs H Q _ => ∃ (p fl : Addr) (x : Pu) (z : Int) (fe dr : List Bool), vs = [.ref p, .int z, .ref fl] ∧ PuAt t H p x ∧ FlAt t H fl fe dr ∧ InFlow fe dr x ∧ Q (.bl (canGo fe dr z x)) H
theorem g_Pump_can_go (T : Txt K mg t) : GMe P w K mg base 2 t.cP "can_go" ["self", "speed", "flow"] (sp_Pump_can_go t) := by
  refine T.f_Pump_can_go.ok sc_Pump_can_go bn_Pump_can_go ?len ?body
  case len =>
    intro vs H Q E h
    obtain ⟨p, fl, x, z, fe, dr, rfl, _⟩ := h
    rfl
  case body =>
    intro f cdv A outer s H vs Q E hr h
    obtain ⟨p, fl, x, z, fe, dr, rfl, hx, hf, i, k⟩ := h
    refine ⟨_, (pss_cons (ps_if (pt_cmpR op_gt (pv 1) pe_int (nomark _)) (pss_one (ps_ret (pe_me (pv 2) T.c_Flow (g_Flow_passes T) (hr.mono (by decide)) (pac (pe_at (pv 0)) (pac (pe_at (pv 0)) pa_nil))))) pss_nil)
      (pss_cons (ps_if (pt_cmpR op_lt (pv 1) pe_int (nomark _)) (pss_one (ps_ret (pe_me (pv 2) T.c_Flow (g_Flow_passes T) (hr.mono (by decide)) (pac (pe_at (pv 0)) (pac (pe_at (pv 0)) pa_nil))))) pss_nil)
      (pss_one (ps_ret pe_bl)))), ?_⟩
    refine ⟨_, rfl, _, _, rfl, rfl, _, rfl, ?_⟩
    unfold canGo at k
    refine ite2 (fun e => ?_) (fun e => ?_)
    · rw [if_pos (of_decide_eq_true e)] at k
      exact ⟨_, rfl, me_F hf ⟨_, rfl, rd_P_a T hx ⟨_, rfl, rd_P_b T hx ⟨_, _, _, _, _, rfl, hf, i.a1, i.b2, k⟩⟩⟩⟩
    · rw [if_neg (fun q => e (decide_eq_true q))] at k
      refine ⟨_, rfl, _, _, rfl, rfl, _, rfl, ?_⟩
      refine ite2 (fun e => ?_) (fun e => ?_)
      · rw [if_pos (of_decide_eq_true e)] at k
        exact ⟨_, rfl, me_F hf ⟨_, rfl, rd_P_b T hx ⟨_, rfl, rd_P_a T hx ⟨_, _, _, _, _, rfl, hf, i.b1, i.a2, k⟩⟩⟩⟩
      · rw [if_neg (fun q => e (decide_eq_true q))] at k
        exact k
def gath (x : Pu) : Pu := if (x.den : Int) ≤ x.acc + x.speed then stepped 1 { x with acc := x.acc + x.speed } else if x.acc + x.speed ≤ -(x.den : Int) then stepped (-1) { x with acc := x.acc + x.speed } else { x with acc := x.acc + x.speed }
theorem gath_goAt (v : Int) (x : Pu) : gath { x with speed := v } = goAt v x := by
  unfold gath goAt stepped
  simp only [Int.one_mul, Int.neg_mul, Int.sub_neg]
  rfl
def sp_Pump_gather (t : Adr) : Sp := fun vs H Q _ => ∃ (p : Addr) (x : Pu), vs = [.ref p] ∧ PuAt t H p x ∧ ∀ H', PuAt t H' p (gath x) → But p H H' → Q .non H'
theorem g_Pump_gather (T : Txt K mg t) : GMe P w K mg base 2 t.cP "gather" ["self"] (sp_Pump_gather t) := by
  refine T.f_Pump_gather.ok sc_Pump_gather bn_Pump_gather ?len ?body
  case len =>
    intro vs H Q E h
    obtain ⟨p, x, rfl, _⟩ := h
    rfl
  case body =>
    intro f cdv A outer s H vs Q E hr h
    obtain ⟨p, x, rfl, ⟨dx, hx⟩, k⟩ := h
    refine ⟨_, (pss_cons (ps_fldaug (pv 0) (pe_at (pv 0)) in_add)
      (pss_one (ps_if (pt_cmpR op_ge (pe_at (pv 0)) (pe_at (pv 0)) (nomark _)) (pss_one (ps_expr (pe_me (pv 0) T.c_Pump (g_Pump_step T) (hr.mono (by decide)) (pac pe_int pa_nil)))) (pss_one (ps_if (pt_cmpR op_le (pe_at (pv 0)) (pe_un un_neg (pe_at (pv 0))) (nomark _)) (pss_one (ps_expr (pe_me (pv 0) T.c_Pump (g_Pump_step T) (hr.mono (by decide)) (pac (pe_un un_neg pe_int) pa_nil)))) pss_nil))))), ?_⟩
    refine ⟨_, rfl, _, _, dx, _, _, rfl, hx, T.c_Pump, T.n_Pump_gathered, rfl, _, rfl, rd_P_speed T ⟨dx, hx⟩ ⟨_, _, rfl, rfl, dx, _, hx, pfl x, ?_⟩⟩
    refine nx_P (v' := { x with acc := x.acc + x.speed }) rfl fun H1 h1 b1 => ?_
    unfold gath at k
    refine ⟨_, rfl, rd_P_gathered T h1 ⟨_, rfl, rd_P_den T h1 ⟨_, _, rfl, rfl, _, rfl, ?_⟩⟩⟩
    refine ite2 (fun e => ?_) (fun e => ?_)
    · rw [if_pos (of_decide_eq_true e)] at k
      exact ⟨_, rfl, me_P h1 ⟨_, _, _, rfl, h1, .inl rfl, fun H2 h2 b2 => k H2 h2 (b1.trans b2)⟩⟩
    · rw [if_neg (fun q => e (decide_eq_true q))] at k
      refine ⟨_, rfl, rd_P_gathered T h1 ⟨_, rfl, rd_P_den T h1 ⟨_, rfl, _, _, rfl, rfl, _, rfl, ?_⟩⟩⟩
      refine ite2 (fun e => ?_) (fun e => ?_)
      · rw [if_pos (of_decide_eq_true e)] at k
        exact ⟨_, rfl, me_P h1 ⟨_, rfl, _, _, _, rfl, h1, .inr rfl, fun H2 h2 b2 => k H2 h2 (b1.trans b2)⟩⟩
      · rw [if_neg (fun q => e (decide_eq_true q))] at k
        exact k H1 h1 b1
def sp_Pump_go_at (t : Adr) : Sp := fun vs H Q _ => ∃ (p : Addr) (x : Pu) (z : Int), vs = [.ref p, .int z] ∧ PuAt t H p x ∧ ∀ H', PuAt t H' p (goAt z x) → But p H H' → Q .non H'
theorem g_Pump_go_at (T : Txt K mg t) : GMe P w K mg base 3 t.cP "go_at" ["self", "speed"] (sp_Pump_go_at t) := by
  refine T.f_Pump_go_at.ok sc_Pump_go_at bn_Pump_go_at ?len ?body
  case len =>
    intro vs H Q E h
    obtain ⟨p, x, z, rfl, _⟩ := h
    rfl
  case body =>
    intro f cdv A outer s H vs Q E hr h
    obtain ⟨p, x, z, rfl, hx, k⟩ := h
    refine ⟨_, (pss_cons (ps_fld (pv 0) (pv 1) rfl)
      (pss_one (ps_expr (pe_me0 (pv 0) T.c_Pump (g_Pump_gather T) (hr.mono (by decide)))))), ?_⟩
    refine ⟨_, rfl, _, rfl, st_P T hx T.n_Pump_speed (v' := { x with speed := z }) rfl fun H1 h1 b1 => ?_⟩
    refine ⟨_, rfl, me_P h1 ⟨_, _, rfl, h1, fun H2 h2 b2 => ?_⟩⟩
    rw [gath_goAt] at h2
    exact k H2 h2 (b1.trans b2)
def sp_Pump_tick (t : Adr) : Sp := fun vs H Q _ => ∃ (p fl : Addr) (x : Pu) (fe dr : List Bool), vs = [.ref p, .ref fl] ∧ PuAt t H p x ∧ FlAt t H fl fe dr ∧ InFlow fe dr x ∧ ∀ H', PuAt t H' p (pumpTickF fe dr x) → But p H H' → Q .non H'
theorem tickF {fe dr : List Bool} {x : Pu} (h : ¬ x.fault ≠ 0) : pumpTickF fe dr x = if canGo fe dr (Vbdlad.nearer x) x = true then goAt (Vbdlad.nearer x) x else Vbdlad.halted x 1 := by
  unfold pumpTickF canGo
  rw [if_neg h]
  by_cases h0 : Vbdlad.nearer x = 0
  · rw [if_pos h0, h0]
    simp only [Int.lt_irrefl, if_false, if_true]
    rw [gather_goAt, h0]
  · rw [if_neg h0]
    by_cases h1 : 0 < Vbdlad.nearer x
    · simp only [h1, if_true]
      rfl
    · have h2 : Vbdlad.nearer x < 0 := by omega
      simp only [h1, h2, if_true, if_false]
      rfl
theorem g_Pump_tick (T : Txt K mg t) : GMe P w K mg base 4 t.cP "tick" ["self", "flow"] (sp_Pump_tick t) := by
  refine T.f_Pump_tick.ok sc_Pump_tick bn_Pump_tick ?len ?body
  case len =>
    intro vs H Q E h
    obtain ⟨p, fl, x, fe, dr, rfl, _⟩ := h
    rfl
  case body =>
    intro f cdv A outer s H vs Q E hr h
    obtain ⟨p, fl, x, fe, dr, rfl, hx, hf, i, k⟩ := h
    refine ⟨_, (pss_cons (ps_if (pt_cmpR op_ne (pe_at (pv 0)) pe_int (nomark _)) (pss_one ps_retN) pss_nil)
      (pss_cons (ps_set (i := 2) sc_Pump_tick.nd rfl (Or.inl rfl) (pe_me0 (pv 0) T.c_Pump (g_Pump_next_speed T) (hr.mono (by decide))))
      (pss_one (ps_if (pt_val (pe_me (pv 0) T.c_Pump (g_Pump_can_go T) (hr.mono (by decide)) (pac (pv 2) (pac (pv 1) pa_nil)))) (pss_one (ps_expr (pe_me (pv 0) T.c_Pump (g_Pump_go_at T) (hr.mono (by decide)) (pac (pv 2) pa_nil)))) (pss_one (ps_expr (pe_me (pv 0) T.c_Pump (g_Pump_fail T) (hr.mono (by decide)) (pac (pe_gi rfl T.i_NOTHING_FLOWS) pa_nil)))))))), ?_⟩
    refine ⟨_, rfl, rd_P_fault T hx ⟨rfl, _, rfl, ?_⟩⟩
    refine ite2 (fun e => ?_) (fun e => ?_)
    · have e2 : x.fault ≠ 0 := fun q => by rw [q] at e; exact absurd e (by decide)
      refine k H ?_ But.refl
      unfold pumpTickF
      rw [if_pos e2]
      exact hx
    · have e2 : ¬ x.fault ≠ 0 := fun q => e (by
        have : ¬ (V.int (x.fault : Int) = V.int 0) := fun z => q (by injection z with z; omega)
        rw [decide_eq_false this]
        rfl)
      rw [tickF e2] at k
      refine ⟨_, rfl, me_P hx ⟨_, _, rfl, hx, ?_⟩⟩
      refine ⟨_, rfl, me_P hx ⟨_, rfl, _, rfl, _, _, _, _, _, _, rfl, hx, hf, i, _, rfl, ?_⟩⟩
      refine ite2 (fun e => ?_) (fun e => ?_)
      · rw [if_pos e] at k
        exact ⟨_, rfl, me_P hx ⟨_, rfl, _, _, _, rfl, hx, k⟩⟩
      · rw [if_neg e] at k
        exact ⟨_, rfl, me_P hx ⟨_, _, 1, rfl, hx, k⟩⟩
def judged (b : Bool) (x : Pu) : Pu := if b = true then (if x.bad = 0 then { x with bad := 1 } else { Vbdlad.halted x 2 with bad := 2 }) else { x with bad := 0 }
theorem int0 {n : Nat} : decide (V.int (n : Int) = V.int 0) = decide (n = 0) := by
  refine decide_eq_decide.mpr ⟨fun z => ?_, fun z => ?_⟩
  · injection z with z
    omega
  · rw [z]
    rfl
def sp_Pump_judge (t : Adr) : Sp := fun vs H Q _ => ∃ (p : Addr) (x : Pu) (b : Bool), vs = [.ref p, .bl b] ∧ PuAt t H p x ∧ ∀ H', PuAt t H' p (judged b x) → But p H H' → Q .non H'
theorem g_Pump_judge (T : Txt K mg t) : GMe P w K mg base 2 t.cP "judge" ["self", "astray"] (sp_Pump_judge t) := by
  refine T.f_Pump_judge.ok sc_Pump_judge bn_Pump_judge ?len ?body
  case len =>
    intro vs H Q E h
    obtain ⟨p, x, z, rfl, _⟩ := h
    rfl
  case body =>
    intro f cdv A outer s H vs Q E hr h
    obtain ⟨p, x, b, rfl, hx, k⟩ := h
    refine ⟨_, (pss_one (ps_if (pt_not (pt_val (pv 1))) (pss_one (ps_fld (pv 0) pe_int rfl)) (pss_one (ps_if (pt_cmpR op_eq (pe_at (pv 0)) pe_int (nomark _)) (pss_one (ps_fld (pv 0) pe_int rfl)) (pss_cons (ps_fld (pv 0) pe_int rfl)
      (pss_one (ps_expr (pe_me (pv 0) T.c_Pump (g_Pump_fail T) (hr.mono (by decide)) (pac (pe_gi rfl T.i_SLIPPED) pa_nil))))))))), ?_⟩
    unfold judged at k
    refine ⟨_, rfl, _, rfl, ?_⟩
    cases b with
    | false => exact ⟨_, rfl, st_P T hx T.n_Pump_bad (v' := { x with bad := 0 }) rfl k⟩
    | true =>
      refine ⟨_, rfl, rd_P_bad T hx ⟨rfl, _, rfl, ?_⟩⟩
      rw [int0]
      rw [if_pos rfl] at k
      refine ite2 (fun e => ?_) (fun e => ?_)
      · rw [if_pos (of_decide_eq_true e)] at k
        exact ⟨_, rfl, st_P T hx T.n_Pump_bad (v' := { x with bad := 1 }) rfl k⟩
      · rw [if_neg (fun q => e (decide_eq_true q))] at k
        refine ⟨_, rfl, st_P T hx T.n_Pump_bad (v' := { x with bad := 2 }) rfl fun H1 h1 b1 => ?_⟩
        exact ⟨_, rfl, me_P h1 ⟨_, _, 2, rfl, h1, fun H2 h2 b2 => k H2 h2 (b1.trans b2)⟩⟩
def sp_Pump_clear_fault (t : Adr) : Sp := fun vs H Q _ => ∃ (p : Addr) (x : Pu), vs = [.ref p] ∧ PuAt t H p x ∧ ∀ H', PuAt t H' p { x with fault := 0, bad := 0 } → But p H H' → Q .non H'
theorem g_Pump_clear_fault (T : Txt K mg t) : GMe P w K mg base 1 t.cP "clear_fault" ["self"] (sp_Pump_clear_fault t) := by
  refine T.f_Pump_clear_fault.ok sc_Pump_clear_fault bn_Pump_clear_fault ?len ?body
  case len =>
    intro vs H Q E h
    obtain ⟨p, x, rfl, _⟩ := h
    rfl
  case body =>
    intro f cdv A outer s H vs Q E hr h
    obtain ⟨p, x, rfl, hx, k⟩ := h
    refine ⟨_, (pss_cons (ps_fld (pv 0) pe_int rfl)
      (pss_one (ps_fld (pv 0) pe_int rfl))), ?_⟩
    refine ⟨_, rfl, st_P T hx T.n_Pump_fault (v' := { x with fault := 0 }) rfl fun H1 h1 b1 => ?_⟩
    exact ⟨_, rfl, st_P T h1 T.n_Pump_bad (v' := { x with fault := 0, bad := 0 }) rfl fun H2 h2 b2 => k H2 h2 (b1.trans b2)⟩
end
end Pn

set_option Elab.async false
set_option linter.all false
set_option maxRecDepth 100000
set_option maxHeartbeats 2000000
namespace Pn
open PySem PySem.Spec PyProof.Rows L2
theorem sz {n : Nat} (h : n ≤ 1000000) : n ≤ sizeLine := Nat.le_trans h (by decide)
theorem szl {n : Nat} (h : n ≤ 1000000) : n < sizeLine := Nat.lt_of_le_of_lt h (by decide)
theorem n_at {l : List Nat} {i : Nat} (h : i < l.length) : (l.map fun (n : Nat) => V.int n)[i]? = some (.int (l.getD i 0 : Nat)) := by simp [List.getD_eq_getElem?_getD, h]
theorem intEq {a b : Nat} : decide (V.int (a : Int) = V.int (b : Int)) = decide (a = b) := by
  refine decide_eq_decide.mpr ⟨fun z => ?_, fun z => ?_⟩
  · injection z with z
    omega
  · rw [z]
theorem map_at {α : Type} {f : α → V} {l : List α} {i : Nat} {x : V} (h : (l.map f)[i]? = some x) : ∃ a, l[i]? = some a ∧ x = f a := by
  rw [List.getElem?_map] at h
  cases e : l[i]? with
  | none => rw [e] at h; cases h
  | some a => rw [e] at h; exact ⟨a, rfl, (Option.some.inj h).symm⟩
theorem take_snoc {α : Type} {l : List α} {i : Nat} {x : α} (h : l[i]? = some x) : l.take (i + 1) = l.take i ++ [x] := by
  rw [List.take_add_one, h]
  rfl
theorem ite_b {b : Bool} {A B : Prop} (h1 : b = true → A) (h2 : b = false → B) : if b = true then A else B := by
  cases b
  · exact h2 rfl
  · exact h1 rfl
end Pn

set_option Elab.async false
set_option linter.all false
set_option maxRecDepth 100000
set_option maxHeartbeats 2000000
namespace Pn
open PySem PySem.Spec PyProof.Rows L2
section
variable {P : Program} {w : World} {K : PySem.W.Frag} {mg : Str → Option Value} {base : Heap} {t : Adr}
theorem pulses_eq (x : Pu) (k : Nat) : Vbdlad.pulses x k = (x.moved / x.per, if x.fault ≠ 0 then { x with moved := x.moved % x.per } else judged (decide (x.tol < (if x.moved / x.per ≤ k then k - x.moved / x.per else x.moved / x.per - k))) { x with moved := x.moved % x.per }) := by
  unfold Vbdlad.pulses judged
  simp only
  by_cases h1 : x.fault ≠ 0
  · rw [if_pos h1, if_pos h1]
  · rw [if_neg h1, if_neg h1]
    by_cases h2 : x.tol < (if x.moved / x.per ≤ k then k - x.moved / x.per else x.moved / x.per - k)
    · rw [if_pos h2, decide_eq_true h2, if_pos rfl]
      by_cases h3 : x.bad = 0
      · rw [if_pos h3, if_neg (by omega)]
      · rw [if_neg h3, if_pos (by omega)]
    · rw [if_neg h2, decide_eq_false h2]
      rfl
def sp_Pump_take_pulses (t : Adr) : Sp := fun vs H Q _ => ∃ (p : Addr) (x : Pu) (k : Nat), vs = [.ref p, .int k] ∧ PuAt t H p x ∧ 1 ≤ x.per ∧ x.per ≤ 64 ∧ ∀ H', PuAt t H' p (Vbdlad.pulses x k).2 → But p H H' → Q (.int (Vbdlad.pulses x k).1) H'
theorem g_Pump_take_pulses (T : Txt K mg t) : GMe P w K mg base 3 t.cP "take_pulses" ["self", "seen"] (sp_Pump_take_pulses t) := by
  refine T.f_Pump_take_pulses.ok sc_Pump_take_pulses bn_Pump_take_pulses ?len ?body
  case len =>
    intro vs H Q E h
    obtain ⟨p, x, z, rfl, _⟩ := h
    rfl
  case body =>
    intro f cdv A outer s H vs Q E hr h
    obtain ⟨p, x, n, rfl, hx, h1, h2, k⟩ := h
    refine ⟨_, (pss_cons (ps_set (i := 2) sc_Pump_take_pulses.nd rfl (Or.inl rfl) (pe_op op_fdiv (pe_at (pv 0)) (pe_at (pv 0))))
      (pss_cons (ps_fld (pv 0) (pe_op op_mod (pe_at (pv 0)) (pe_at (pv 0))) rfl)
      (pss_cons (ps_if (pt_cmpR op_eq (pe_at (pv 0)) pe_int (nomark _)) (pss_one (ps_expr (pe_me (pv 0) T.c_Pump (g_Pump_judge T) (hr.mono (by decide)) (pac (pe_cmpR op_gt (pe_blt call_abs rfl T.b_abs PyProof.Rows.boot_abs (pac (pe_op op_sub (pv 1) (pv 2)) pa_nil)) (pe_at (pv 0)) (nomark _)) pa_nil)))) pss_nil)
      (pss_one (ps_ret (pv 2)))))), ?_⟩
    rw [pulses_eq] at k
    simp only at k
    have ed : ((x.moved : Int) / (x.per : Int)) = ((x.moved / x.per : Nat) : Int) := by simp
    have em : ((x.moved : Int) % (x.per : Int)) = ((x.moved % x.per : Nat) : Int) := by simp
    refine ⟨_, rfl, rd_P_moved T hx ⟨_, rfl, rd_P_per T hx ⟨_, _, rfl, rfl, ⟨by omega, by omega⟩, ?_⟩⟩⟩
    refine ⟨_, rfl, rd_P_moved T hx ⟨_, rfl, rd_P_per T hx ⟨_, _, rfl, rfl, (by omega), _, rfl, ?_⟩⟩⟩
    refine st_P T hx T.n_Pump_moved (v' := { x with moved := x.moved % x.per }) (by show putF _ (.int ((x.moved : Int) % (x.per : Int))) (pf x) = _; rw [em]; rfl) fun H1 h1 b1 => ?_
    refine ⟨_, rfl, rd_P_fault T h1 ⟨rfl, _, rfl, ?_⟩⟩
    rw [int0]
    refine ite_b (fun e => ?_) (fun e => ?_)
    · have e : x.fault = 0 := of_decide_eq_true e
      rw [if_neg (by simp [e])] at k
      refine ⟨_, rfl, me_P h1 ⟨_, rfl, _, rfl, _, _, rfl, rfl, _, rfl, _, rfl, rd_P_tol T h1 ⟨_, _, rfl, rfl, _, _, _, rfl, h1, fun H2 h2 b2 => ?_⟩⟩⟩
      simp only [ed] at h2
      have eb : decide ((x.tol : Int) < if (n : Int) - ((x.moved / x.per : Nat) : Int) < 0 then -((n : Int) - ((x.moved / x.per : Nat) : Int)) else (n : Int) - ((x.moved / x.per : Nat) : Int)) = decide (x.tol < (if x.moved / x.per ≤ n then n - x.moved / x.per else x.moved / x.per - n)) := by
        refine decide_eq_decide.mpr ?_
        split <;> split <;> omega
      have h2' : PuAt t H2 p (judged (decide (x.tol < (if x.moved / x.per ≤ n then n - x.moved / x.per else x.moved / x.per - n))) { x with moved := x.moved % x.per }) := by
        rw [← eb]
        exact h2
      have := k H2 h2' (b1.trans b2)
      exact ⟨_, rfl, by show Q (.int ((x.moved : Int) / (x.per : Int))) H2; rw [ed]; exact this⟩
    · have e : ¬ x.fault = 0 := of_decide_eq_false e
      rw [if_pos e] at k
      have := k H1 h1 b1
      exact ⟨_, rfl, by show Q (.int ((x.moved : Int) / (x.per : Int))) H1; rw [ed]; exact this⟩
def sp_Pump_ahead (t : Adr) : Sp := fun vs H Q _ => ∃ (p : Addr) (x : Pu) (n : Nat), vs = [.ref p, .int n] ∧ PuAt t H p x ∧ n ≤ 10000 ∧ ∀ H', Same H H' → Q (.int (if x.fault ≠ 0 then 0 else (Vbdlad.alone n x).pos - x.pos)) H'
theorem g_Pump_ahead (T : Txt K mg t) : GMe P w K mg base 4 t.cP "ahead" ["self", "ticks"] (sp_Pump_ahead t) := by
  refine T.f_Pump_ahead.ok sc_Pump_ahead bn_Pump_ahead ?len ?body
  case len =>
    intro vs H Q E h
    obtain ⟨p, x, z, rfl, _⟩ := h
    rfl
  case body =>
    intro f cdv A outer s H vs Q E hr h
    obtain ⟨p, x, n, rfl, hx, hn, k⟩ := h
    refine ⟨_, (pss_cons (ps_if (pt_cmpR op_ne (pe_at (pv 0)) pe_int (nomark _)) (pss_one (ps_ret pe_int)) pss_nil)
      (pss_cons (ps_set (i := 2) sc_Pump_ahead.nd rfl (Or.inl rfl) (pe_mk (g_Pump_init T) (hr.mono (by decide)) rfl (pac (pe_at (pv 0)) (pac (pe_at (pv 0)) (pac (pe_at (pv 0)) (pac (pe_at (pv 0)) (pac (pe_at (pv 0)) (pac (pe_at (pv 0)) (pac (pe_at (pv 0)) pa_nil)))))))))
      (pss_cons (ps_fld (pv 2) (pe_at (pv 0)) rfl)
      (pss_cons (ps_fld (pv 2) (pe_at (pv 0)) rfl)
      (pss_cons (ps_fld (pv 2) (pe_at (pv 0)) rfl)
      (pss_cons (ps_for PassesOwn.never rfl (pi_range1 rfl T.b_range (pac (pv 1) pa_nil)) (pg_name (i := 3) sc_Pump_ahead.nd rfl (Or.inl rfl)) (pss_one (ps_expr (pe_me (pv 2) T.c_Pump (g_Pump_go_at T) (hr.mono (by decide)) (pac (pe_me0 (pv 2) T.c_Pump (g_Pump_next_speed T) (hr.mono (by decide))) pa_nil)))))
      (pss_one (ps_ret (pe_at (pv 2)))))))))), ?_⟩
    refine ⟨_, rfl, rd_P_fault T hx ⟨rfl, _, rfl, ?_⟩⟩
    rw [int0]
    refine ite_b (fun e => ?_) (fun e => ?_)
    · have e : ¬ x.fault = 0 := by simpa using e
      rw [if_pos e] at k
      exact k H (Same.refl H)
    · have e : x.fault = 0 := by simpa using e
      rw [if_neg (by simp [e])] at k
      refine ⟨_, rfl, rd_P_a T hx ⟨_, rfl, rd_P_b T hx ⟨_, rfl, rd_P_den T hx ⟨_, rfl, rd_P_stroke T hx ⟨_, rfl, rd_P_slope T hx ⟨_, rfl, rd_P_per T hx ⟨_, rfl, rd_P_tol T hx ?_⟩⟩⟩⟩⟩⟩⟩
      intro y dx ny nd ne
      refine ⟨y, dx, _, _, _, _, _, _, _, rfl, upd_same, fun H1 h1 b1 => ⟨rfl, ?_⟩⟩
      have s1 : Same H H1 := Same.made ny nd b1
      refine ⟨_, rfl, rd_P_target T (hx.same fun o q => s1 _ o q) ⟨_, rfl, st_P T h1 T.n_Pump_target (v' := ⟨x.a, x.b, x.den, x.stroke, x.slope, x.per, x.tol, x.target, 0, 0, 0, 0, 0, 0⟩) rfl fun H2 h2 b2 => ?_⟩⟩
      have s2 : Same H H2 := b2.same ny s1
      refine ⟨_, rfl, rd_P_speed T (hx.same fun o q => s2 _ o q) ⟨_, rfl, st_P T h2 T.n_Pump_speed (v' := ⟨x.a, x.b, x.den, x.stroke, x.slope, x.per, x.tol, x.target, x.speed, 0, 0, 0, 0, 0⟩) rfl fun H3 h3 b3 => ?_⟩⟩
      have s3 : Same H H3 := b3.same ny s2
      refine ⟨_, rfl, rd_P_gathered T (hx.same fun o q => s3 _ o q) ⟨_, rfl, st_P T h3 T.n_Pump_gathered (v' := ⟨x.a, x.b, x.den, x.stroke, x.slope, x.per, x.tol, x.target, x.speed, x.acc, 0, 0, 0, 0⟩) rfl fun H4 h4 b4 => ?_⟩⟩
      have s4 : Same H H4 := b4.same ny s3
      generalize htr : (⟨x.a, x.b, x.den, x.stroke, x.slope, x.per, x.tol, x.target, x.speed, x.acc, 0, 0, 0, 0⟩ : Pu) = tr at h4
      refine ⟨_, rfl, n, rfl, by omega, by omega, ?_⟩
      refine for_range (n := (n : Int).toNat) (fun i σ H' => ∃ v, σ = [some (.ref p), some (.int n), some (.ref y), v] ∧ Same H H' ∧ PuAt t H' y (Vbdlad.alone i tr)) ⟨_, rfl, s4, h4⟩ ?_ ?_
      · rintro i σ H' hi ⟨v, rfl, s5, h5⟩
        refine ⟨_, rfl, me_P h5 ⟨_, rfl, me_P h5 ⟨_, _, rfl, h5, _, _, _, rfl, h5, fun H6 h6 b6 => ?_⟩⟩⟩
        exact ⟨_, rfl, b6.same ny s5, by rw [alone_succ]; exact h6⟩
      · rintro σ H' ⟨v, rfl, s5, h5⟩
        refine ⟨_, rfl, rd_P_position T h5 ?_⟩
        have al : Alike (-x.pos) x tr := by
          subst htr
          exact ⟨rfl, rfl, rfl, rfl, rfl, by simp only; omega⟩
        have ap := (al.alone n).ps
        have e2 : (Vbdlad.alone (n : Int).toNat tr).pos = (Vbdlad.alone n x).pos - x.pos := by
          rw [Int.toNat_natCast, ap]
          omega
        rw [e2]
        exact k H' s5
/-! ### answers in lists -/
def sp_with_count (t : Adr) : Sp := fun vs H Q _ => ∃ (l : Addr) (xs : List V), vs = [.ref l] ∧ H l = some (.lst xs) ∧ xs.length ≤ 1000 ∧ ∀ H' p, Same H H' → H p = none → H' p = some (.lst (.int xs.length :: xs)) → Q (.ref p) H'
theorem g_with_count (T : Txt K mg t) : GFn P w K mg base 1 "with_count" ["numbers"] (sp_with_count t) := by
  refine T.f_with_count.ok sc_with_count bn_with_count ?len ?body
  case len =>
    intro vs H Q E h
    obtain ⟨l, xs, rfl, _⟩ := h
    rfl
  case body =>
    intro f cdv A outer s H vs Q E hr h
    obtain ⟨l, xs, rfl, hl, hn, k⟩ := h
    refine ⟨_, (pss_one (ps_ret (pe_op op_cat (pe_lst (pac (pe_blt call_ln rfl T.b_len PySem.boot_len (pac (pv 0) pa_nil)) pa_nil)) (pv 0)))), ?_⟩
    refine ⟨_, rfl, _, xs.length, rfl, LenIs.of hl rfl, (sz (by show 1 ≤ 1000000; decide)), fun p hp => ⟨_, rfl, p, l, _, xs, rfl, rfl, upd_same, Same.new hp _ _ hl, sz (by show 1 + xs.length ≤ 1000000; omega), fun p2 hp2 => ?_⟩⟩
    exact k _ p2 ((Same.new hp).trans (Same.new hp2)) ((Same.new hp).free hp2) upd_same
def sp_with_count_of_pairs (t : Adr) : Sp := fun vs H Q _ => ∃ (l : Addr) (ts : List Addr) (js : Js), vs = [.ref l] ∧ H l = some (rL ts) ∧ Prs H ts js ∧ js.length ≤ 1000 ∧ ∀ H' p, Same H H' → H p = none → H' p = some (iL (Vbdlad.pairsTold js)) → Q (.ref p) H'
theorem g_with_count_of_pairs (T : Txt K mg t) : GFn P w K mg base 1 "with_count_of_pairs" ["pairs"] (sp_with_count_of_pairs t) := by
  refine T.f_with_count_of_pairs.ok sc_with_count_of_pairs bn_with_count_of_pairs ?len ?body
  case len =>
    intro vs H Q E h
    obtain ⟨l, xs, js, rfl, _⟩ := h
    rfl
  case body =>
    intro f cdv A outer s H vs Q E hr h
    obtain ⟨l, ts, js, rfl, hl, hp, hn, k⟩ := h
    refine ⟨_, (pss_cons (ps_set (i := 1) sc_with_count_of_pairs.nd rfl (Or.inl rfl) (pe_lst (pac (pe_blt call_ln rfl T.b_len PySem.boot_len (pac (pv 0) pa_nil)) pa_nil)))
      (pss_cons (ps_for PassesOwn.never rfl (pi_list (pv 0)) (pg_name (i := 2) sc_with_count_of_pairs.nd rfl (Or.inl rfl)) (pss_one (ps_expr (pe_lm PySem.F.slot_list_extend PySem.F.type_list_extend mt_extendT (pv 1) (pac (pv 2) pa_nil)))))
      (pss_one (ps_ret (pv 1))))), ?_⟩
    refine ⟨_, rfl, _, ts.length, rfl, LenIs.of hl (by simp), (sz (by show 1 ≤ 1000000; decide)), fun p np => ?_⟩
    have s0 : Same H (upd H p (.lst [.int ts.length])) := Same.new np
    refine ⟨_, rfl, l, rfl, ⟨_, SqL.of (s0 _ _ hl)⟩, for_list (K := K) (a := l) (xs := ts.map V.ref) (fun i σ H' => ∃ v, σ = [some (.ref l), some (.ref p), v] ∧ Same H H' ∧ H' p = some (iL ((js.length : Int) :: (js.take i).flatMap fun q => [(q.1 : Int), (q.2 : Int)])))
      ⟨_, rfl, s0, by rw [upd_same, hp.len]; rfl⟩ (fun i σ H' _ ⟨_, _, s1, _⟩ => SqL.of (s1 _ _ hl)) ?_ ?_⟩
    · rintro i y σ H' hi ⟨v, rfl, s1, h1⟩
      obtain ⟨a, ha, rfl⟩ := map_at hi
      obtain ⟨q, hq, hqa⟩ := hp.at_ i a ha
      have hlen : ((js.take i).flatMap fun q => [(q.1 : Int), (q.2 : Int)]).length ≤ 2 * js.length := by
        have : ∀ l : Js, (l.flatMap fun q => [(q.1 : Int), (q.2 : Int)]).length = 2 * l.length := fun l => by
          induction l with
          | nil => rfl
          | cons a l ih => rw [List.flatMap_cons, List.length_append, ih]; simp; omega
        rw [this, List.length_take]
        omega
      refine ⟨_, rfl, .inl ⟨rfl, _, SqL.of h1⟩, _, rfl, p, a, _, _, rfl, rfl, h1, s1 _ _ hqa, ?_, ?_⟩
      · refine sz ?_
        simp only [List.length_map, List.length_cons, List.length_nil]
        omega
      · refine ⟨_, rfl, fun b o e => ?_, ?_⟩
        · rw [upd_ne (ne_of_none e np)]
          exact s1 b o e
        · rw [upd_same, take_snoc hq]
          simp [iL, tup2]
    · rintro σ H' ⟨v, rfl, s1, h1⟩
      refine ⟨_, rfl, k H' p s1 np ?_⟩
      rw [List.length_map, hp.len, List.take_length] at h1
      exact h1
/-! ### doors -/
def ov : Option Nat → V
  | none => .non
  | some z => .int z
def dtup (d : Door) : HO := .tup [.int d.1, .int d.2.1, .int d.2.2]
def sp_beyond (t : Adr) : Sp := fun vs H Q _ => ∃ (a : Addr) (d : Door) (h : Nat), vs = [.ref a, .int h] ∧ H a = some (dtup d) ∧ Q (ov (beyondD d h)) H
theorem g_beyond (T : Txt K mg t) : GFn P w K mg base 1 "beyond" ["door", "here"] (sp_beyond t) := by
  refine T.f_beyond.ok sc_beyond bn_beyond ?len ?body
  case len =>
    intro vs H Q E h
    obtain ⟨l, xs, js, rfl, _⟩ := h
    rfl
  case body =>
    intro f cdv A outer s H vs Q E hr h
    obtain ⟨a, d, h, rfl, ha, k⟩ := h
    refine ⟨_, (pss_cons (ps_if (pt_cmpR op_eq (pe_ix ix_tup (pv 0) pe_int (fun _ _ => rfl)) (pv 1) (nomark _)) (pss_one (ps_ret (pe_ix ix_tup (pv 0) pe_int (fun _ _ => rfl)))) pss_nil)
      (pss_cons (ps_if (pt_cmpR op_eq (pe_ix ix_tup (pv 0) pe_int (fun _ _ => rfl)) (pv 1) (nomark _)) (pss_one (ps_ret (pe_ix ix_tup (pv 0) pe_int (fun _ _ => rfl)))) pss_nil)
      (pss_one (ps_ret pe_non)))), ?_⟩
    unfold beyondD at k
    refine ⟨_, rfl, ⟨_, _, _, _, rfl, rfl, SqT.of ha, rfl, _, rfl, rfl, _, rfl, ?_⟩⟩
    rw [intEq]
    refine ite_b (fun e => ?_) (fun e => ?_)
    · rw [if_pos (of_decide_eq_true e)] at k
      exact ⟨_, rfl, ⟨_, _, _, _, rfl, rfl, SqT.of ha, rfl, k⟩⟩
    · rw [if_neg (of_decide_eq_false e)] at k
      refine ⟨_, rfl, ⟨_, _, _, _, rfl, rfl, SqT.of ha, rfl, _, rfl, rfl, _, rfl, ?_⟩⟩
      rw [intEq]
      refine ite_b (fun e => ?_) (fun e => ?_)
      · rw [if_pos (of_decide_eq_true e)] at k
        exact ⟨_, rfl, ⟨_, _, _, _, rfl, rfl, SqT.of ha, rfl, k⟩⟩
      · rw [if_neg (of_decide_eq_false e)] at k
        exact k
end
end Pn

set_option Elab.async false
set_option linter.all false
set_option maxRecDepth 100000
set_option maxHeartbeats 2000000
namespace Pn
open PySem PySem.Spec PyProof.Rows L2
section
variable {P : Program} {w : World} {K : PySem.W.Frag} {mg : Str → Option Value} {base : Heap} {t : Adr}
theorem joinStep_len (l : List Nat) (p : Nat × Nat) : (joinStep l p).length = l.length := by
  rw [joinStep_map, List.length_map]
theorem foldJ_len : ∀ (js : Js) (l : List Nat), (js.foldl joinStep l).length = l.length
  | [], _ => rfl
  | p :: js, l => by rw [List.foldl_cons, foldJ_len js, joinStep_len]
def sp_least_joined (t : Adr) : Sp := fun vs H Q _ => ∃ (n : Nat) (l : Addr) (ts : List Addr) (js : Js), vs = [.int n, .ref l] ∧ H l = some (rL ts) ∧ Prs H ts js ∧ Below n js ∧ n ≤ 24 ∧ ∀ H' p, Same H H' → H p = none → H' p = some (nL (leastJ n js)) → Q (.ref p) H'
theorem g_least_joined (T : Txt K mg t) : GFn P w K mg base 1 "least_joined" ["size", "links"] (sp_least_joined t) := by
  refine T.f_least_joined.ok sc_least_joined bn_least_joined ?len ?body
  case len =>
    intro vs H Q E h
    obtain ⟨n, l, ts, js, rfl, _⟩ := h
    rfl
  case body =>
    intro f cdv A outer s H vs Q E hr h
    obtain ⟨n, l, ts, js, rfl, hl, hp, hb, hn, k⟩ := h
    refine ⟨_, (pss_cons (ps_set (i := 2) sc_least_joined.nd rfl (Or.inl rfl) (pe_bty (call_list_rng rfl) rfl T.b_list PyProof.Rows.boot_list (pac (pe_bty call_rng rfl T.b_range PyProof.Rows.boot_range (pac (pv 0) pa_nil)) pa_nil)))
      (pss_cons (ps_for PassesOwn.never rfl (pi_list (pv 1)) (pg_tup rfl (pgs_cons (pg_name (i := 3) sc_least_joined.nd rfl (Or.inl rfl)) (pgs_cons (pg_name (i := 4) sc_least_joined.nd rfl (Or.inl rfl)) pgs_nil))) (pss_cons (ps_set (i := 5) sc_least_joined.nd rfl (Or.inr rfl) (pe_blt (call_min2 rfl) rfl T.b_min PyProof.Rows.boot_min (pac (pe_ix ix_list (pv 2) (pv 3) (fun _ _ => rfl)) (pac (pe_ix ix_list (pv 2) (pv 4) (fun _ _ => rfl)) pa_nil))))
      (pss_cons (ps_set (i := 6) sc_least_joined.nd rfl (Or.inr rfl) (pe_blt (call_max2 rfl) rfl T.b_max PyProof.Rows.boot_max (pac (pe_ix ix_list (pv 2) (pv 3) (fun _ _ => rfl)) (pac (pe_ix ix_list (pv 2) (pv 4) (fun _ _ => rfl)) pa_nil))))
      (pss_one (ps_if (pt_cmpR op_ne (pv 5) (pv 6) (nomark _)) (pss_one (ps_setLc (i := 2) rfl sc_least_joined.nd rfl rfl (sw_true rfl rfl rfl rfl) (pi_list (pv 2)) (blkOk_by (N := ["size", "links", "least", "a", "b", "low", "high", "x"]) (sc := defScope s_least_joined) (own := [("x", 7)]) (by decide +kernel)) (fun _ _ _ _ _ => (pg_name (i := 7) sc_least_joined.nd rfl (Or.inl rfl))) (fun _ _ _ _ _ => pts_nil) (fun _ _ _ _ _ => (pe_ifExp (pt_cmpR op_eq (pv 7) (pv 6) (nomark _)) (pv 5) (pv 7))))) pss_nil)))))
      (pss_one (ps_ret (pv 2))))), ?_⟩
    refine ⟨_, rfl, n, rfl, fun p0 np0 => ⟨p0, n, rfl, upd_same, (by omega), fun q nq => ?_⟩⟩
    have s0 : Same H (upd (upd H p0 (.rng 0 n)) q (.lst ((List.range n).map fun (i : Nat) => V.int i))) := (Same.new np0).trans (Same.new nq)
    have nq0 : H q = none := (Same.new np0).free nq
    refine ⟨_, rfl, l, rfl, ⟨_, SqL.of (s0 _ _ hl)⟩, for_list (K := K) (a := l) (xs := ts.map V.ref) (fun i σ H' => ∃ q a b lo hi x, σ = [some (.int n), some (.ref l), some (.ref q), a, b, lo, hi, x] ∧ Same H H' ∧ H q = none ∧ H' q = some (nL ((js.take i).foldl joinStep (List.range n))))
      ⟨q, _, _, _, _, _, rfl, s0, nq0, upd_same⟩ (fun i σ H' _ ⟨_, _, _, _, _, _, _, s1, _⟩ => SqL.of (s1 _ _ hl)) ?_ ?_⟩
    · rintro i y σ H' hi ⟨q, a0, b0, lo, hi0, x0, rfl, s1, nq, hq⟩
      obtain ⟨ta, ha, rfl⟩ := map_at hi
      obtain ⟨⟨a, b⟩, hj, hta⟩ := hp.at_ i ta ha
      generalize hL : (js.take i).foldl joinStep (List.range n) = L at hq
      have hlen : L.length = n := by rw [← hL, foldJ_len, List.length_range]
      have hab := hb _ (List.mem_of_getElem? hj)
      simp only at hab
      have ha' : a < L.length := by omega
      have hb' : b < L.length := by omega
      have hstep : (js.take (i + 1)).foldl joinStep (List.range n) = joinStep L (a, b) := by
        rw [take_snoc hj, List.foldl_append, hL]
        rfl
      refine ⟨ta, _, rfl, SqT.of (s1 _ _ hta), rfl, _, _, rfl, _, _, rfl, rfl, ?_⟩
      refine ⟨_, rfl, _, rfl, ⟨_, _, _, _, rfl, rfl, SqL.of hq, at_of rfl (n_at ha'), _, rfl, _, rfl, ⟨_, _, _, _, rfl, rfl, SqL.of hq, at_of rfl (n_at hb'), _, _, rfl, ?_⟩⟩⟩
      have emin : (if ((L.getD b 0 : Nat) : Int) < ((L.getD a 0 : Nat) : Int) then ((L.getD b 0 : Nat) : Int) else ((L.getD a 0 : Nat) : Int)) = ((min (L.getD a 0) (L.getD b 0) : Nat) : Int) := by split <;> omega
      have emax : (if ((L.getD b 0 : Nat) : Int) > ((L.getD a 0 : Nat) : Int) then ((L.getD b 0 : Nat) : Int) else ((L.getD a 0 : Nat) : Int)) = ((max (L.getD a 0) (L.getD b 0) : Nat) : Int) := by split <;> omega
      rw [emin]
      refine ⟨_, rfl, _, rfl, ⟨_, _, _, _, rfl, rfl, SqL.of hq, at_of rfl (n_at ha'), _, rfl, _, rfl, ⟨_, _, _, _, rfl, rfl, SqL.of hq, at_of rfl (n_at hb'), _, _, rfl, ?_⟩⟩⟩
      rw [emax]
      refine ⟨_, rfl, _, rfl, rfl, _, rfl, ?_⟩
      rw [intEq]
      have ej : joinStep L (a, b) = if min (L.getD a 0) (L.getD b 0) ≠ max (L.getD a 0) (L.getD b 0) then L.map (relab (min (L.getD a 0) (L.getD b 0)) (max (L.getD a 0) (L.getD b 0))) else L := rfl
      generalize min (L.getD a 0) (L.getD b 0) = mn at ej ⊢
      generalize max (L.getD a 0) (L.getD b 0) = mx at ej ⊢
      refine ite_b (fun e => ?_) (fun e => ?_)
      · have e : mn ≠ mx := by simpa using e
        rw [if_pos e] at ej
        refine ⟨_, rfl, q, rfl, ⟨_, SqL.of hq⟩, fun D nD => ?_⟩
        have nD0 : H D = none := s1.free nD
        refine lc_list (K := K) (a := q) (xs := L.map fun (n : Nat) => V.int n) (fun j H2 => Same H' H2 ∧ H2 D = some (nL ((L.take j).map (relab mn mx)))) ⟨Same.new nD, upd_same⟩ (fun j H2 _ ⟨s2, _⟩ => SqL.of (s2 _ _ hq)) ?_ ?_
        · rintro j y H2 hj ⟨s2, h2⟩
          obtain ⟨z, hz, rfl⟩ := map_at hj
          have step : ∀ H3, H3 = upd H2 D (.lst (((L.take j).map (relab mn mx)).map (fun (n : Nat) => V.int n) ++ [V.int (relab mn mx z : Nat)])) → Same H' H3 ∧ H3 D = some (nL ((L.take (j + 1)).map (relab mn mx))) := by
            rintro H3 rfl
            refine ⟨fun b o e => ?_, ?_⟩
            · rw [upd_ne (ne_of_none e nD)]
              exact s2 b o e
            · rw [upd_same, take_snoc hz]
              simp [nL]
          have hsz : (((L.take j).map (relab mn mx)).map (fun (n : Nat) => V.int n)).length < sizeLine := szl (by
            simp only [List.length_map, List.length_take]
            omega)
          refine ⟨rfl, ⟨_, rfl, _, rfl, rfl, _, rfl, ?_⟩⟩
          rw [intEq]
          refine ite_b (fun e => ?_) (fun e => ?_)
          · refine ⟨_, rfl, _, h2, hsz, step _ ?_⟩
            unfold relab
            rw [if_pos (of_decide_eq_true e)]
          · refine ⟨_, rfl, _, h2, hsz, step _ ?_⟩
            unfold relab
            rw [if_neg (of_decide_eq_false e)]
        · rintro H2 ⟨s2, h2⟩
          refine ⟨D, _, _, _, _, _, rfl, s1.trans s2, nD0, ?_⟩
          rw [hstep, ej]
          rw [List.length_map, List.take_length] at h2
          exact h2
      · have e : mn = mx := by simpa using e
        rw [if_neg (by simpa using e)] at ej
        exact ⟨_, _, _, _, _, _, rfl, s1, nq, by rw [hstep, ej]; exact hq⟩
    · rintro σ H' ⟨q, _, _, _, _, _, rfl, s1, nq, hq⟩
      rw [List.length_map, hp.len, List.take_length] at hq
      exact ⟨_, rfl, k H' q s1 nq hq⟩
def sp_reached (t : Adr) : Sp := fun vs H Q _ => ∃ (l1 l2 : Addr) (least flags : List Nat) (wd : Nat), vs = [.ref l1, .ref l2, .int wd] ∧ H l1 = some (nL least) ∧ H l2 = some (nL flags) ∧ least.length = flags.length ∧ least.length ≤ 24 ∧ (wd = 1 ∨ wd = 2) ∧ (∀ f, f ∈ flags → f ≤ 3) ∧
  ∀ H' p, Same H H' → H p = none → H' p = some (bL (reachedL least flags wd)) → Q (.ref p) H'
/-- what the dict tells: the lows that a node with the flag has -/
def FoundOk (wd : Nat) (ps : List (Nat × Nat)) (kvs : List (Key × V)) : Prop := kvs.length ≤ ps.length ∧ ∀ z : Nat, (valV kvs (Sum.inl (z : Int))).isSome = ps.any fun p => p.1 == z && hasBit wd p.2
theorem and_bit {f w : Nat} (hf : f ≤ 3) (hw : w = 1 ∨ w = 2) : (!decide (V.int (Builtin.bitAnd (f : Int) (w : Int)) = V.int 0)) = hasBit w f := by
  have hf' : f = 0 ∨ f = 1 ∨ f = 2 ∨ f = 3 := by omega
  rcases hw with rfl | rfl <;> rcases hf' with rfl | rfl | rfl | rfl <;> decide +kernel
theorem zip_at {least flags : List Nat} {i : Nat} {x y : Nat} (h1 : least[i]? = some x) (h2 : flags[i]? = some y) : (least.zip flags)[i]? = some (x, y) := by
  rw [List.getElem?_zip_eq_some]
  exact ⟨h1, h2⟩
theorem g_reached (T : Txt K mg t) : GFn P w K mg base 1 "reached" ["least", "flags", "wanted"] (sp_reached t) := by
  refine T.f_reached.ok sc_reached bn_reached ?len ?body
  case len =>
    intro vs H Q E h
    obtain ⟨l1, l2, least, flags, wd, rfl, _⟩ := h
    rfl
  case body =>
    intro f cdv A outer s H vs Q E hr h
    obtain ⟨l1, l2, least, flags, wd, rfl, h1, h2, hlen, h24, hw, hfl, k⟩ := h
    refine ⟨_, (pss_cons (ps_set (i := 3) sc_reached.nd rfl (Or.inr rfl) pe_dnewK)
      (pss_cons (ps_for PassesOwn.never rfl (pi_zip rfl T.b_zip (pac (pv 0) (pac (pv 1) pa_nil))) (pg_tup rfl (pgs_cons (pg_name (i := 4) sc_reached.nd rfl (Or.inl rfl)) (pgs_cons (pg_name (i := 5) sc_reached.nd rfl (Or.inl rfl)) pgs_nil))) (pss_one (ps_if (pt_cmpR op_ne (pe_op op_and (pv 5) (pv 2)) pe_int (nomark _)) (pss_one (ps_dput (hu_of hr) (pv 3) (pv 4) pe_bl rfl)) pss_nil)))
      (pss_one (ps_ret (pe_lc rfl sc_reached.nd (pi_list (pv 0)) (blkOk_by (N := ["least", "flags", "wanted", "found", "low", "flag"]) (sc := defScope s_reached) (own := [("low", 4)]) (by decide +kernel)) (fun _ _ _ _ _ => (pg_name (i := 4) sc_reached.nd rfl (Or.inl rfl))) (fun _ _ _ _ _ => pts_nil) (fun _ _ _ _ _ => (pe_cmp (pc_din (hu_of hr) (pv 4) (pv 3))))))))), ?_⟩
    intro d nd
    have sd : Same H (upd H d (.dK [])) := Same.new nd
    refine ⟨_, rfl, _, rfl, l1, l2, _, _, rfl, SqL.of (sd _ _ h1), SqL.of (sd _ _ h2), ?_⟩
    refine for_zip (K := K) (a := l1) (b := l2) (xs := least.map fun (n : Nat) => V.int n) (ys := flags.map fun (n : Nat) => V.int n) (fun i σ H' => ∃ lo fg kvs, σ = [some (.ref l1), some (.ref l2), some (.int wd), some (.ref d), lo, fg] ∧ Same H H' ∧ H' d = some (.dK kvs) ∧ FoundOk wd ((least.zip flags).take i) kvs)
      ⟨_, _, [], rfl, sd, upd_same, Nat.zero_le _, fun z => rfl⟩ (by simp [hlen]) (fun i σ H' ⟨_, _, _, _, s1, _⟩ => ⟨SqL.of (s1 _ _ h1), SqL.of (s1 _ _ h2)⟩) ?_ ?_
    · rintro i x y Tt σ H' hx hy nT ⟨lo, fg, kvs, rfl, s1, hd, hf⟩
      obtain ⟨lw, hlw, rfl⟩ := map_at hx
      obtain ⟨fl, hfg, rfl⟩ := map_at hy
      have s2 : Same H' (upd H' Tt (.tup [.int lw, .int fl])) := Same.new nT
      have hd2 := s2 _ _ hd
      have hz := zip_at hlw hfg
      refine ⟨Tt, _, rfl, SqT.of upd_same, rfl, _, _, rfl, _, _, rfl, rfl, ?_⟩
      refine ⟨_, rfl, _, rfl, _, _, rfl, rfl, rfl, _, rfl, ?_⟩
      rw [and_bit (hfl fl (List.mem_of_getElem? hfg)) hw]
      have hlk : kvs.length ≤ 24 := by
        have := hf.1
        rw [List.length_take, List.length_zip] at this
        omega
      refine ite_b (fun e => ?_) (fun e => ?_)
      · refine ⟨_, rfl, _, rfl, d, _, rfl, DPut.k (k := Sum.inl (lw : Int)) hd2 (szl (by omega)), ?_⟩
        refine ⟨_, _, _, rfl, fun b o eb => ?_, upd_same, ?_, fun z => ?_⟩
        · rw [upd_ne (ne_of_none eb nd)]
          exact s2 _ _ (s1 b o eb)
        · have h3 := length_putK kvs (Sum.inl (lw : Int)) (V.bl true)
          have := hf.1
          rw [take_snoc hz, List.length_append]
          simp only [List.length_cons, List.length_nil]
          omega
        · rw [valV_put, take_snoc hz, List.any_append, ← hf.2 z]
          by_cases ez : z = lw
          · subst ez
            simp [e]
          · have e1 : ¬ ((Sum.inl (z : Int) : Key) = Sum.inl (lw : Int)) := fun q => ez (by injection q with q; omega)
            have e2 : (lw == z) = false := by simpa using fun q => ez q.symm
            rw [if_neg e1]
            simp [e2]
      · refine ⟨_, _, kvs, rfl, s1.trans s2, hd2, ?_, fun z => ?_⟩
        · have := hf.1
          rw [take_snoc hz, List.length_append]
          omega
        · rw [take_snoc hz, List.any_append, ← hf.2 z]
          simp [e]
    · rintro σ H' ⟨lo, fg, kvs, rfl, s1, hd, hf⟩
      rw [List.length_map, List.take_of_length_le (by rw [List.length_zip]; omega)] at hf
      refine ⟨_, rfl, l1, rfl, ⟨_, SqL.of (s1 _ _ h1)⟩, fun D nD => ?_⟩
      refine lc_list (K := K) (a := l1) (xs := least.map fun (n : Nat) => V.int n) (fun j H2 => Same H' H2 ∧ H2 D = some (bL ((least.take j).map fun low => (least.zip flags).any fun p => p.1 == low && hasBit wd p.2))) ⟨Same.new nD, upd_same⟩ (fun j H2 _ ⟨s2, _⟩ => SqL.of (s2 _ _ (s1 _ _ h1))) ?_ ?_
      · rintro j y H2 hj ⟨s2, h2'⟩
        obtain ⟨z, hz, rfl⟩ := map_at hj
        refine ⟨rfl, ⟨_, rfl, _, rfl, d, _, rfl, DGet.k (k := Sum.inl (z : Int)) (s2 _ _ hd), _, h2', szl ?_, fun b o e => ?_, ?_⟩⟩
        · simp only [List.length_map, List.length_take]
          omega
        · rw [upd_ne (ne_of_none e nD)]
          exact s2 b o e
        · rw [upd_same, take_snoc hz, hf.2 z]
          simp [bL]
      · rintro H2 ⟨s2, h2'⟩
        rw [List.length_map, List.take_length] at h2'
        exact k H2 D (s1.trans s2) (s1.free nD) h2'
end
end Pn

set_option Elab.async false
set_option linter.all false
set_option maxRecDepth 100000
set_option maxHeartbeats 2000000
namespace Pn
open PySem PySem.Spec PyProof.Rows L2
section
variable {t : Adr} {R : Root} {s : Ss} {H H' : Hp}
/-- no list -/
def NL : HO → Prop
  | .lst _ => False
  | _ => True
theorem NL.ne {a b : Addr} {o : HO} {xs : List V} (h : H a = some o) (n : NL o) (h' : H b = some (.lst xs)) : a ≠ b := ne_of h h' (by rintro rfl; exact n)
/-- the plant but for its lists -/
structure Core (t : Adr) (R : Root) (s : Ss) (H : Hp) : Prop where
  pl : H R.pl = some (.ins t.cL R.df (Pn.lf R.nt R.lu s.tick))
  nt : H R.nt = some (.ins t.cN R.dn (nf R.lf R.lp R.lv R.lo))
  tp : Prs H R.tp s.pipes
  vs : All2 (VaAt t H) R.vs s.valves
  fo : Prs H R.fo s.forbidden
  ps : All2 (PuAt t H) R.ps s.pumps
theorem Rep.core (h : Rep t R s H) (k : ∀ b o, H b = some o → NL o → H' b = some o) : Core t R s H' :=
  ⟨k _ _ h.pl trivial, k _ _ h.nt trivial, ⟨h.tp.len, fun i a e => let ⟨q, e1, e2⟩ := h.tp.at_ i a e; ⟨q, e1, k _ _ e2 trivial⟩⟩,
    h.vs.imp fun a _ _ ⟨dx, e⟩ => ⟨dx, k _ _ e trivial⟩, ⟨h.fo.len, fun i a e => let ⟨q, e1, e2⟩ := h.fo.at_ i a e; ⟨q, e1, k _ _ e2 trivial⟩⟩, h.ps.imp fun a _ _ ⟨dx, e⟩ => ⟨dx, k _ _ e trivial⟩⟩
theorem keepNL {l : Addr} {xs : List V} {o : HO} (h : H l = some (.lst xs)) : ∀ b u, H b = some u → NL u → upd H l o b = some u := fun b u e n => by
  rw [upd_ne (NL.ne e n h)]
  exact e
structure Ne5 (R : Root) : Prop where
  a : R.lf ≠ R.lp
  b : R.lf ≠ R.lv
  c : R.lf ≠ R.lo
  d : R.lf ≠ R.lu
  e : R.lp ≠ R.lv
  f : R.lp ≠ R.lo
  g : R.lp ≠ R.lu
  h : R.lv ≠ R.lo
  i : R.lv ≠ R.lu
  j : R.lo ≠ R.lu
theorem Rep.ne5 (h : Rep t R s H) : Ne5 R := by
  have n := h.nd
  simp only [List.nodup_cons, List.mem_cons, not_or] at n
  obtain ⟨⟨a, b, c, d, _⟩, ⟨e, f, g, _⟩, ⟨i, j, _⟩, ⟨k, _⟩, _⟩ := n
  exact ⟨a, b, c, d, e, f, g, i, j, k⟩
/-- one more node -/
theorem Rep.addNode (h : Rep t R s H) (f : Nat) : Rep t R { s with nodes := s.nodes ++ [f] } (upd H R.lf (nL (s.nodes ++ [f]))) := by
  have c := h.core (keepNL (o := nL (s.nodes ++ [f])) h.lf)
  have n := h.ne5
  exact ⟨c.pl, c.nt, upd_same, by rw [upd_ne n.a.symm]; exact h.lp, c.tp, by rw [upd_ne n.b.symm]; exact h.lv, c.vs, by rw [upd_ne n.c.symm]; exact h.lo, c.fo, by rw [upd_ne n.d.symm]; exact h.lu, c.ps, h.nd, h.vn, h.pn⟩
theorem Rep.addPipe (h : Rep t R s H) {x : Addr} {q : Nat × Nat} (hx : H x = some (tup2 q)) : Rep t { R with tp := R.tp ++ [x] } { s with pipes := s.pipes ++ [q] } (upd H R.lp (rL (R.tp ++ [x]))) := by
  have kp := keepNL (o := rL (R.tp ++ [x])) h.lp
  have c := h.core kp
  have n := h.ne5
  exact ⟨c.pl, c.nt, by rw [upd_ne n.a]; exact h.lf, upd_same, c.tp.snoc (kp _ _ hx trivial), by rw [upd_ne n.e.symm]; exact h.lv, c.vs, by rw [upd_ne n.f.symm]; exact h.lo, c.fo, by rw [upd_ne n.g.symm]; exact h.lu, c.ps, h.nd, h.vn, h.pn⟩
theorem Rep.addForb (h : Rep t R s H) {x : Addr} {q : Nat × Nat} (hx : H x = some (tup2 q)) : Rep t { R with fo := R.fo ++ [x] } { s with forbidden := s.forbidden ++ [q] } (upd H R.lo (rL (R.fo ++ [x]))) := by
  have kp := keepNL (o := rL (R.fo ++ [x])) h.lo
  have c := h.core kp
  have n := h.ne5
  exact ⟨c.pl, c.nt, by rw [upd_ne n.c]; exact h.lf, by rw [upd_ne n.f]; exact h.lp, c.tp, by rw [upd_ne n.h]; exact h.lv, c.vs, upd_same, c.fo.snoc (kp _ _ hx trivial), by rw [upd_ne n.j.symm]; exact h.lu, c.ps, h.nd, h.vn, h.pn⟩
theorem Rep.dropForb (h : Rep t R s H) (j : Nat) : Rep t { R with fo := R.fo.eraseIdx j } { s with forbidden := s.forbidden.eraseIdx j } (upd H R.lo (rL (R.fo.eraseIdx j))) := by
  have kp := keepNL (o := rL (R.fo.eraseIdx j)) h.lo
  have c := h.core kp
  have n := h.ne5
  refine ⟨c.pl, c.nt, by rw [upd_ne n.c]; exact h.lf, by rw [upd_ne n.f]; exact h.lp, c.tp, by rw [upd_ne n.h]; exact h.lv, c.vs, upd_same, ?_, by rw [upd_ne n.j.symm]; exact h.lu, c.ps, h.nd, h.vn, h.pn⟩
  refine ⟨by rw [List.length_eraseIdx, List.length_eraseIdx, h.fo.len], fun i a e => ?_⟩
  rw [List.getElem?_eraseIdx] at e
  show ∃ q, (s.forbidden.eraseIdx j)[i]? = some q ∧ _
  rw [List.getElem?_eraseIdx]
  split at e
  · rename_i hij
    rw [if_pos hij]
    exact c.fo.at_ i a e
  · rename_i hij
    rw [if_neg hij]
    exact c.fo.at_ (i + 1) a e
theorem Rep.addValve (h : Rep t R s H) {x : Addr} {v : Va} (hx : VaAt t H x v) (nx : x ∉ R.vs) : Rep t { R with vs := R.vs ++ [x] } { s with valves := s.valves ++ [v] } (upd H R.lv (rL (R.vs ++ [x]))) := by
  have kp := keepNL (o := rL (R.vs ++ [x])) h.lv
  have c := h.core kp
  have n := h.ne5
  obtain ⟨dx, hx⟩ := hx
  exact ⟨c.pl, c.nt, by rw [upd_ne n.b]; exact h.lf, by rw [upd_ne n.e]; exact h.lp, c.tp, upd_same, c.vs.snoc ⟨dx, kp _ _ hx trivial⟩, by rw [upd_ne n.h.symm]; exact h.lo, c.fo, by rw [upd_ne n.i.symm]; exact h.lu, c.ps, h.nd, nd_snoc h.vn nx, h.pn⟩
theorem Rep.addPump (h : Rep t R s H) {x : Addr} {v : Pu} (hx : PuAt t H x v) (nx : x ∉ R.ps) : Rep t { R with ps := R.ps ++ [x] } { s with pumps := s.pumps ++ [v] } (upd H R.lu (rL (R.ps ++ [x]))) := by
  have kp := keepNL (o := rL (R.ps ++ [x])) h.lu
  have c := h.core kp
  have n := h.ne5
  obtain ⟨dx, hx⟩ := hx
  exact ⟨c.pl, c.nt, by rw [upd_ne n.d]; exact h.lf, by rw [upd_ne n.g]; exact h.lp, c.tp, by rw [upd_ne n.i]; exact h.lv, c.vs, by rw [upd_ne n.j]; exact h.lo, c.fo, upd_same, c.ps.snoc ⟨dx, kp _ _ hx trivial⟩, h.nd, h.vn, nd_snoc h.pn nx⟩
theorem ins_ne {C C' dx dx' : Addr} {fs fs' : List (Str × V)} (h : fs.length ≠ fs'.length) : HO.ins C dx fs ≠ HO.ins C' dx' fs' := fun e => by
  injection e with _ _ e
  exact h (by rw [e])
/-- what is no valve stays where a valve is changed -/
theorem Rep.setValve (h : Rep t R s H) {i : Nat} {a : Addr} {v : Va} (hi : R.vs[i]? = some a) (hv : VaAt t H' a v) (k : But a H H') : Rep t R { s with valves := s.valves.set i v } H' := by
  obtain ⟨v0, _, dx, h0⟩ := h.vs.at_ i a hi
  have k2 : ∀ b o, H b = some o → (∀ dx v, o ≠ .ins t.cV dx (vf v)) → H' b = some o := fun b o e n => k b o e (ne_of e h0 (n dx v0))
  refine ⟨k2 _ _ h.pl fun _ _ => ins_ne (by show 3 ≠ 5; decide), k2 _ _ h.nt fun _ _ => ins_ne (by show 4 ≠ 5; decide), k2 _ _ h.lf fun _ _ => nofun, k2 _ _ h.lp fun _ _ => nofun, ⟨h.tp.len, fun i a e => let ⟨q, e1, e2⟩ := h.tp.at_ i a e; ⟨q, e1, k2 _ _ e2 fun _ _ => nofun⟩⟩,
    k2 _ _ h.lv fun _ _ => nofun, h.vs.set h.vn hi (fun b x _ n ⟨d, e⟩ => ⟨d, k _ _ e n⟩) hv, k2 _ _ h.lo fun _ _ => nofun, ⟨h.fo.len, fun i a e => let ⟨q, e1, e2⟩ := h.fo.at_ i a e; ⟨q, e1, k2 _ _ e2 fun _ _ => nofun⟩⟩, k2 _ _ h.lu fun _ _ => nofun,
    h.ps.imp fun b x _ ⟨d, e⟩ => ⟨d, k2 _ _ e fun _ _ => ins_ne (by show 14 ≠ 5; decide)⟩, h.nd, h.vn, h.pn⟩
theorem Rep.setPump (h : Rep t R s H) {i : Nat} {a : Addr} {v : Pu} (hi : R.ps[i]? = some a) (hv : PuAt t H' a v) (k : But a H H') : Rep t R { s with pumps := s.pumps.set i v } H' := by
  obtain ⟨v0, _, dx, h0⟩ := h.ps.at_ i a hi
  have k2 : ∀ b o, H b = some o → (∀ dx v, o ≠ .ins t.cP dx (pf v)) → H' b = some o := fun b o e n => k b o e (ne_of e h0 (n dx v0))
  refine ⟨k2 _ _ h.pl fun _ _ => ins_ne (by show 3 ≠ 14; decide), k2 _ _ h.nt fun _ _ => ins_ne (by show 4 ≠ 14; decide), k2 _ _ h.lf fun _ _ => nofun, k2 _ _ h.lp fun _ _ => nofun, ⟨h.tp.len, fun i a e => let ⟨q, e1, e2⟩ := h.tp.at_ i a e; ⟨q, e1, k2 _ _ e2 fun _ _ => nofun⟩⟩,
    k2 _ _ h.lv fun _ _ => nofun, h.vs.imp fun b x _ ⟨d, e⟩ => ⟨d, k2 _ _ e fun _ _ => ins_ne (by show 5 ≠ 14; decide)⟩, k2 _ _ h.lo fun _ _ => nofun, ⟨h.fo.len, fun i a e => let ⟨q, e1, e2⟩ := h.fo.at_ i a e; ⟨q, e1, k2 _ _ e2 fun _ _ => nofun⟩⟩, k2 _ _ h.lu fun _ _ => nofun,
    h.ps.set h.pn hi (fun b x _ n ⟨d, e⟩ => ⟨d, k _ _ e n⟩) hv, h.nd, h.vn, h.pn⟩
/-- the clock goes on -/
theorem Rep.setTick (h : Rep t R s H) (n : Nat) : Rep t R { s with tick := n } (upd H R.pl (.ins t.cL R.df (Pn.lf R.nt R.lu n))) := by
  have k2 : ∀ b o, H b = some o → o ≠ .ins t.cL R.df (Pn.lf R.nt R.lu s.tick) → upd H R.pl (.ins t.cL R.df (Pn.lf R.nt R.lu n)) b = some o := fun b o e n => by
    rw [upd_ne (ne_of e h.pl n)]
    exact e
  refine ⟨upd_same, k2 _ _ h.nt (ins_ne (by show 4 ≠ 3; decide)), k2 _ _ h.lf nofun, k2 _ _ h.lp nofun, ⟨h.tp.len, fun i a e => let ⟨q, e1, e2⟩ := h.tp.at_ i a e; ⟨q, e1, k2 _ _ e2 nofun⟩⟩,
    k2 _ _ h.lv nofun, h.vs.imp fun b x _ ⟨d, e⟩ => ⟨d, k2 _ _ e (ins_ne (by show 5 ≠ 3; decide))⟩, k2 _ _ h.lo nofun, ⟨h.fo.len, fun i a e => let ⟨q, e1, e2⟩ := h.fo.at_ i a e; ⟨q, e1, k2 _ _ e2 nofun⟩⟩, k2 _ _ h.lu nofun,
    h.ps.imp fun b x _ ⟨d, e⟩ => ⟨d, k2 _ _ e (ins_ne (by show 14 ≠ 3; decide))⟩, h.nd, h.vn, h.pn⟩
/-- pairs are no lists -/
theorem _root_.L2.Prs.put {us : List Addr} {js : Js} {D : Addr} {xs : List V} {o : HO} (P : Prs H us js) (hD : H D = some (.lst xs)) : Prs (upd H D o) us js :=
  ⟨P.len, fun i a e => let ⟨q, e1, e2⟩ := P.at_ i a e; ⟨q, e1, keepNL hD _ _ e2 trivial⟩⟩
end
end Pn

set_option Elab.async false
set_option linter.all false
set_option maxRecDepth 100000
set_option maxHeartbeats 2000000
namespace Pn
open PySem PySem.Spec PyProof.Rows L2
section
variable {P : Program} {w : World} {K : PySem.W.Frag} {mg : Str → Option Value} {base : Heap} {t : Adr}
def sp_Flow_init (t : Adr) : Sp := fun vs H Q _ => ∃ (p dx l1 l2 : Addr) (least flags : List Nat), vs = [.ref p, .ref l1, .ref l2] ∧ H p = some (.ins t.cF dx []) ∧ H l1 = some (nL least) ∧ H l2 = some (nL flags) ∧ least.length = flags.length ∧ least.length ≤ 24 ∧ (∀ f, f ∈ flags → f ≤ 3) ∧
  ∀ H', FlAt t H' p (reachedL least flags 1) (reachedL least flags 2) → But p H H' → Q .non H'
theorem g_Flow_init (T : Txt K mg t) : GMk P w K mg base 2 t.cF "Flow" ["self", "least", "flags"] (sp_Flow_init t) := by
  refine T.f_Flow_init.ok sc_Flow_init bn_Flow_init ?len ?body
  case len =>
    intro vs H Q E h
    obtain ⟨p, dx, l1, l2, least, flags, rfl, _⟩ := h
    rfl
  case body =>
    intro f cdv A outer s H vs Q E hr h
    obtain ⟨p, dx, l1, l2, least, flags, rfl, hp, h1, h2, hlen, h24, hfl, k⟩ := h
    refine ⟨_, (pss_cons (ps_fld (pv 0) (pe_fn (g_reached T) (hr.mono (by decide)) rfl (pac (pv 1) (pac (pv 2) (pac (pe_gi rfl T.i_SOURCE) pa_nil)))) rfl)
      (pss_one (ps_fld (pv 0) (pe_fn (g_reached T) (hr.mono (by decide)) rfl (pac (pv 1) (pac (pv 2) (pac (pe_gi rfl T.i_END) pa_nil)))) rfl))), ?_⟩
    refine ⟨_, rfl, _, rfl, ⟨l1, l2, least, flags, 1, rfl, h1, h2, hlen, h24, .inl rfl, hfl, fun H1 q s1 nq hq => ?_⟩⟩
    refine ⟨_, rfl, st_of (s1 _ _ hp) T.c_Flow T.n_Flow_fed (by decide) rfl fun H2 e2 b2 => ?_⟩
    have n1 : l1 ≠ p := ne_of h1 hp nofun
    have n2 : l2 ≠ p := ne_of h2 hp nofun
    have nqp : q ≠ p := (ne_of_none hp nq).symm
    refine ⟨_, rfl, _, rfl, ⟨l1, l2, least, flags, 2, rfl, b2 _ _ (s1 _ _ h1) n1, b2 _ _ (s1 _ _ h2) n2, hlen, h24, .inr rfl, hfl, fun H3 q2 s3 nq2 hq2 => ?_⟩⟩
    refine ⟨_, rfl, st_of (s3 _ _ e2) T.c_Flow T.n_Flow_drained (by show 1 ≤ 20; decide) rfl fun H4 e4 b4 => ?_⟩
    have nqp2 : q2 ≠ p := (ne_of_none e2 nq2).symm
    refine k H4 ⟨dx, q, q2, e4, b4 _ _ (s3 _ _ (b2 _ _ hq nqp)) nqp, b4 _ _ hq2 nqp2⟩ fun b o e n => b4 _ _ (s3 _ _ (b2 _ _ (s1 _ _ e) n)) n
/-- a net without anything -/
structure Net0 (t : Adr) (H H' : Hp) (p dx f q v o : Addr) : Prop where
  at_ : H' p = some (.ins t.cN dx (nf f q v o))
  ef : H' f = some (.lst [])
  eq : H' q = some (.lst [])
  ev : H' v = some (.lst [])
  eo : H' o = some (.lst [])
  nd : [f, q, v, o].Nodup
  fr : H f = none ∧ H q = none ∧ H v = none ∧ H o = none
def sp_Net_init (t : Adr) : Sp := fun vs H Q _ => ∃ (p dx : Addr), vs = [.ref p] ∧ H p = some (.ins t.cN dx []) ∧ ∀ H' f q v o, Net0 t H H' p dx f q v o → But p H H' → Q .non H'
theorem g_Net_init (T : Txt K mg t) : GMk P w K mg base 1 t.cN "Net" ["self"] (sp_Net_init t) := by
  refine T.f_Net_init.ok sc_Net_init bn_Net_init ?len ?body
  case len =>
    intro vs H Q E h
    obtain ⟨p, dx, rfl, _⟩ := h
    rfl
  case body =>
    intro f cdv A outer s H vs Q E hr h
    obtain ⟨p, dx, rfl, hp, k⟩ := h
    refine ⟨_, (pss_cons (ps_fld (pv 0) (pe_lst pa_nil) rfl)
      (pss_cons (ps_fld (pv 0) (pe_lst pa_nil) rfl)
      (pss_cons (ps_fld (pv 0) (pe_lst pa_nil) rfl)
      (pss_one (ps_fld (pv 0) (pe_lst pa_nil) rfl))))), ?_⟩
    refine ⟨Nat.zero_le _, fun f nf_ => ⟨_, rfl, st_of (Same.new nf_ _ _ hp) T.c_Net T.n_Net_flags (by decide) rfl fun H1 e1 b1 => ?_⟩⟩
    have pf_ : f ≠ p := (ne_of_none hp nf_).symm
    have f1 : H1 f = some (.lst []) := b1 _ _ upd_same pf_
    refine ⟨Nat.zero_le _, fun q nq => ⟨_, rfl, st_of (Same.new nq _ _ e1) T.c_Net T.n_Net_pipes (by show 1 ≤ 20; decide) rfl fun H2 e2 b2 => ?_⟩⟩
    have pq : q ≠ p := (ne_of_none e1 nq).symm
    have q2 : H2 q = some (.lst []) := b2 _ _ upd_same pq
    have f2 : H2 f = some (.lst []) := b2 _ _ (Same.new nq _ _ f1) pf_
    refine ⟨Nat.zero_le _, fun v nv => ⟨_, rfl, st_of (Same.new nv _ _ e2) T.c_Net T.n_Net_valves (by show 2 ≤ 20; decide) rfl fun H3 e3 b3 => ?_⟩⟩
    have pv_ : v ≠ p := (ne_of_none e2 nv).symm
    have v3 : H3 v = some (.lst []) := b3 _ _ upd_same pv_
    have f3 : H3 f = some (.lst []) := b3 _ _ (Same.new nv _ _ f2) pf_
    have q3 : H3 q = some (.lst []) := b3 _ _ (Same.new nv _ _ q2) pq
    refine ⟨Nat.zero_le _, fun o no => ⟨_, rfl, st_of (Same.new no _ _ e3) T.c_Net T.n_Net_forbidden (by show 3 ≤ 20; decide) rfl fun H4 e4 b4 => ?_⟩⟩
    have po : o ≠ p := (ne_of_none e3 no).symm
    refine k H4 f q v o ⟨e4, b4 _ _ (Same.new no _ _ f3) pf_, b4 _ _ (Same.new no _ _ q3) pq, b4 _ _ (Same.new no _ _ v3) pv_, b4 _ _ upd_same po, ?_, ?_⟩
      fun b u e n => b4 _ _ (Same.new no _ _ (b3 _ _ (Same.new nv _ _ (b2 _ _ (Same.new nq _ _ (b1 _ _ (Same.new nf_ _ _ e) n)) n)) n)) n
    rotate_left
    · have g : ∀ {Hi : Hp} {b : Addr}, (∀ o, H b = some o → Hi b = some o) → Hi b = none → H b = none := fun {Hi b} c e => by
        cases z : H b with
        | none => rfl
        | some u => rw [c u z] at e; cases e
      exact ⟨nf_, g (fun u z => b1 _ _ (Same.new nf_ _ _ z) pq) nq, g (fun u z => b2 _ _ (Same.new nq _ _ (b1 _ _ (Same.new nf_ _ _ z) pv_)) pv_) nv, g (fun u z => b3 _ _ (Same.new nv _ _ (b2 _ _ (Same.new nq _ _ (b1 _ _ (Same.new nf_ _ _ z) po)) po)) po) no⟩
    have fq : f ≠ q := ne_of_none f1 nq
    have fv : f ≠ v := ne_of_none f2 nv
    have qv : q ≠ v := ne_of_none q2 nv
    have fo : f ≠ o := ne_of_none f3 no
    have qo : q ≠ o := ne_of_none q3 no
    have vo : v ≠ o := ne_of_none v3 no
    simp [fq, fv, qv, fo, qo, vo]
def sp_Net_has_node (t : Adr) : Sp := fun vs H Q _ => ∃ (R : Root) (s : Ss) (a : Int), vs = [.ref R.nt, .int a] ∧ Rep t R s H ∧ Q (.bl (Vbdlad.isNode s a)) H
theorem g_Net_has_node (T : Txt K mg t) : GMe P w K mg base 1 t.cN "has_node" ["self", "a"] (sp_Net_has_node t) := by
  refine T.f_Net_has_node.ok sc_Net_has_node bn_Net_has_node ?len ?body
  case len =>
    intro vs H Q E h
    obtain ⟨R, s, a, rfl, _⟩ := h
    rfl
  case body =>
    intro f cdv A outer s' H vs Q E hr h
    obtain ⟨R, s, a, rfl, h, k⟩ := h
    refine ⟨_, (pss_one (ps_ret (pe_chain op_le op_lt pe_int (pv 1) (pe_blt call_ln rfl T.b_len PySem.boot_len (pac (pe_at (pv 0)) pa_nil))))), ?_⟩
    unfold Vbdlad.isNode at k
    refine ⟨_, rfl, _, _, rfl, rfl, _, rfl, ?_⟩
    refine ite_b (fun e => ?_) (fun e => ?_)
    · rw [e, Bool.true_and] at k
      exact ⟨_, rfl, rd_flags T h ⟨_, _, rfl, LenIs.of h.lf (by simp), _, _, rfl, rfl, k⟩⟩
    · rw [e, Bool.false_and] at k
      exact k
def sp_Net_has_valve (t : Adr) : Sp := fun vs H Q _ => ∃ (R : Root) (s : Ss) (a : Int), vs = [.ref R.nt, .int a] ∧ Rep t R s H ∧ Q (.bl (decide (0 ≤ a) && decide (a < (s.valves.length : Int)))) H
theorem g_Net_has_valve (T : Txt K mg t) : GMe P w K mg base 1 t.cN "has_valve" ["self", "v"] (sp_Net_has_valve t) := by
  refine T.f_Net_has_valve.ok sc_Net_has_valve bn_Net_has_valve ?len ?body
  case len =>
    intro vs H Q E h
    obtain ⟨R, s, a, rfl, _⟩ := h
    rfl
  case body =>
    intro f cdv A outer s' H vs Q E hr h
    obtain ⟨R, s, a, rfl, h, k⟩ := h
    refine ⟨_, (pss_one (ps_ret (pe_chain op_le op_lt pe_int (pv 1) (pe_blt call_ln rfl T.b_len PySem.boot_len (pac (pe_at (pv 0)) pa_nil))))), ?_⟩
    refine ⟨_, rfl, _, _, rfl, rfl, _, rfl, ?_⟩
    refine ite_b (fun e => ?_) (fun e => ?_)
    · rw [e, Bool.true_and] at k
      exact ⟨_, rfl, rd_valves T h ⟨_, _, rfl, LenIs.of h.lv (by rw [List.length_map]; exact h.vs.len), _, _, rfl, rfl, k⟩⟩
    · rw [e, Bool.false_and] at k
      exact k
def sp_Net_add_valve (t : Adr) : Sp := fun vs H Q _ => ∃ (R : Root) (s : Ss) (a b tr : Nat), vs = [.ref R.nt, .int a, .int b, .int tr] ∧ Rep t R s H ∧ s.valves.length < 48 ∧
  ∀ H' x, H x = none → Rep t { R with vs := R.vs ++ [x] } { s with valves := s.valves ++ [⟨a, b, tr, 0, false⟩] } H' → (∀ b o, H b = some o → b ≠ R.lv → H' b = some o) → Q .non H'
theorem g_Net_add_valve (T : Txt K mg t) : GMe P w K mg base 3 t.cN "add_valve" ["self", "a", "b", "travel"] (sp_Net_add_valve t) := by
  refine T.f_Net_add_valve.ok sc_Net_add_valve bn_Net_add_valve ?len ?body
  case len =>
    intro vs H Q E h
    obtain ⟨R, s, a, b, tr, rfl, _⟩ := h
    rfl
  case body =>
    intro f cdv A outer s' H vs Q E hr h
    obtain ⟨R, s, a, b, tr, rfl, h, hn, k⟩ := h
    refine ⟨_, (pss_one (ps_expr (pe_lm PySem.F.slot_list_append PySem.F.type_list_append mt_append (pe_at (pv 0)) (pac (pe_mk (g_Valve_init T) (hr.mono (by decide)) rfl (pac (pv 1) (pac (pv 2) (pac (pv 3) pa_nil)))) pa_nil)))), ?_⟩
    refine ⟨_, rfl, rd_valves T h ⟨.inl ⟨rfl, _, SqL.of h.lv⟩, _, rfl, _, rfl, _, rfl, fun x dx nx nd ne => ⟨x, dx, a, b, tr, rfl, upd_same, fun H1 h1 b1 => ⟨rfl, ?_⟩⟩⟩⟩
    have s1 : Same H H1 := Same.made nx nd b1
    have hR := h.same s1
    refine ⟨R.lv, _, _, rfl, rfl, hR.lv, szl (by rw [List.length_map, h.vs.len]; omega), ?_⟩
    have hx : x ∉ R.vs := fun m => by
      obtain ⟨_, _, e⟩ := h.vs.mem m
      rw [nx] at e
      cases e
    have h2 := hR.addValve h1 hx
    refine k _ x nx ?_ fun b o e n => ?_
    · have e : rL (R.vs ++ [x]) = .lst (R.vs.map V.ref ++ [.ref x]) := by simp [rL]
      rw [e] at h2
      exact h2
    · rw [upd_ne n]
      exact s1 _ _ e
def sp_Net_links (t : Adr) : Sp := fun vs H Q _ => ∃ (R : Root) (s : Ss), vs = [.ref R.nt] ∧ Rep t R s H ∧ s.pipes.length ≤ 48 ∧ s.valves.length ≤ 48 ∧ ∀ H' p us, Same H H' → H p = none → H' p = some (rL us) → Prs H' us (Vbdlad.joints s) → Q (.ref p) H'
theorem g_Net_links (T : Txt K mg t) : GMe P w K mg base 2 t.cN "links" ["self"] (sp_Net_links t) := by
  refine T.f_Net_links.ok sc_Net_links bn_Net_links ?len ?body
  case len =>
    intro vs H Q E h
    obtain ⟨R, s, rfl, _⟩ := h
    rfl
  case body =>
    intro f cdv A outer s' H vs Q E hr h
    obtain ⟨R, s, rfl, h, hp, hv, k⟩ := h
    refine ⟨_, (pss_one (ps_ret (pe_op op_cat (pe_at (pv 0)) (pe_lc rfl sc_Net_links.nd (pi_list (pe_at (pv 0))) (blkOk_by (N := ["self", "valve"]) (sc := defScope s_Net_links) (own := [("valve", 1)]) (by decide +kernel)) (fun _ _ _ _ _ => (pg_name (i := 1) sc_Net_links.nd rfl (Or.inl rfl))) (fun _ _ _ _ _ => (pts_one (pt_val (pe_me0 (pv 1) T.c_Valve (g_Valve_counts_as_open T) (hr.mono (by decide)))))) (fun _ _ _ _ _ => (pe_tup (pac (pe_atK K (pv 1)) (pac (pe_atK K (pv 1)) pa_nil)))))))), ?_⟩
    refine ⟨_, rfl, rd_pipes T h ⟨_, rfl, rd_valves T h ⟨R.lv, rfl, ⟨_, SqL.of h.lv⟩, fun D nD => ?_⟩⟩⟩
    refine lc_list (K := K) (a := R.lv) (xs := R.vs.map V.ref) (fun j H2 => Same H H2 ∧ ∃ us, H2 D = some (rL us) ∧ Prs H2 us (((s.valves.take j).filter Vbdlad.counts).map fun v => (v.a, v.b))) ⟨Same.new nD, [], upd_same, Prs.nil⟩ (fun j H2 _ ⟨s2, _⟩ => SqL.of (s2 _ _ h.lv)) ?_ ?_
    · rintro j y H2 hj ⟨s2, us, hD, hP⟩
      obtain ⟨a, ha, rfl⟩ := map_at hj
      obtain ⟨v, hv', hva⟩ := h.vs.at_ j a ha
      have hva2 : VaAt t H2 a v := hva.same fun o e => s2 _ _ e
      have hlen : us.length ≤ 48 := by
        rw [hP.len, List.length_map]
        have := List.length_filter_le Vbdlad.counts (s.valves.take j)
        rw [List.length_take] at this
        omega
      refine ⟨rfl, ⟨_, rfl, me_V hva2 ⟨_, _, rfl, hva2, _, rfl, ?_⟩⟩⟩
      refine ite_b (fun e => ?_) (fun e => ?_)
      · refine ⟨_, rfl, rd_V_a T hva2 ⟨_, rfl, rd_V_b T hva2 ⟨sz (by show 2 ≤ 1000000; decide), fun p np => ?_⟩⟩⟩
        have s3 : Same H2 (upd H2 p (.tup [.int v.a, .int v.b])) := Same.new np
        have hD3 := s3 _ _ hD
        refine ⟨_, hD3, szl (by rw [List.length_map]; omega), fun b o e => ?_, us ++ [p], ?_, ?_⟩
        · rw [upd_ne (ne_of_none e nD)]
          exact s3 _ _ (s2 b o e)
        · rw [upd_same]
          simp [rL]
        · rw [take_snoc hv', List.filter_append, List.map_append, List.filter_cons, if_pos e]
          have pD : p ≠ D := (ne_of_none hD np).symm
          exact ((hP.same s3).put hD3).snoc (by rw [upd_ne pD]; exact upd_same)
      · refine ⟨s2, us, hD, ?_⟩
        rw [take_snoc hv', List.filter_append, List.filter_cons, if_neg (by simp [e]), List.filter_nil, List.append_nil]
        exact hP
    · rintro H2 ⟨s2, us, hD, hP⟩
      rw [List.length_map, h.vs.len, List.take_length] at hP
      have hlen : us.length ≤ 48 := by
        rw [hP.len, List.length_map]
        have := List.length_filter_le Vbdlad.counts s.valves
        omega
      refine ⟨R.lp, D, _, _, rfl, rfl, s2 _ _ h.lp, hD, sz (by rw [List.length_map, List.length_map, h.tp.len]; omega), fun p np => ?_⟩
      have s3 : Same H2 (upd H2 p (.lst (R.tp.map V.ref ++ us.map V.ref))) := Same.new np
      refine k _ p (R.tp ++ us) (s2.trans s3) (s2.free np) ?_ ?_
      · rw [upd_same]
        simp [rL]
      · have h1 := (h.tp.same s2).same s3
        have h2 := hP.same s3
        unfold Vbdlad.joints
        refine ⟨by rw [List.length_append, List.length_append, h1.len, h2.len], fun i a e => ?_⟩
        by_cases hi : i < R.tp.length
        · rw [List.getElem?_append_left hi] at e
          rw [List.getElem?_append_left (by rw [← h1.len]; exact hi)]
          exact h1.at_ i a e
        · rw [List.getElem?_append_right (by omega)] at e
          rw [List.getElem?_append_right (by rw [← h1.len]; omega), ← h1.len]
          exact h2.at_ _ a e
def sp_Net_islands (t : Adr) : Sp := fun vs H Q _ => ∃ (R : Root) (s : Ss), vs = [.ref R.nt] ∧ Rep t R s H ∧ Wf s ∧ ∀ H' p, Same H H' → H p = none → H' p = some (nL (leastJ s.nodes.length (Vbdlad.joints s))) → Q (.ref p) H'
theorem g_Net_islands (T : Txt K mg t) : GMe P w K mg base 3 t.cN "islands" ["self"] (sp_Net_islands t) := by
  refine T.f_Net_islands.ok sc_Net_islands bn_Net_islands ?len ?body
  case len =>
    intro vs H Q E h
    obtain ⟨R, s, rfl, _⟩ := h
    rfl
  case body =>
    intro f cdv A outer s' H vs Q E hr h
    obtain ⟨R, s, rfl, h, wf, k⟩ := h
    refine ⟨_, (pss_one (ps_ret (pe_fn (g_least_joined T) (hr.mono (by decide)) rfl (pac (pe_blt call_ln rfl T.b_len PySem.boot_len (pac (pe_at (pv 0)) pa_nil)) (pac (pe_me0 (pv 0) T.c_Net (g_Net_links T) (hr.mono (by decide))) pa_nil))))), ?_⟩
    refine ⟨_, rfl, rd_flags T h ⟨_, s.nodes.length, rfl, LenIs.of h.lf (by simp), _, rfl, me_N h ⟨R, s, rfl, h, wf.piL, wf.vaL, fun H1 p us s1 np hp hP => ?_⟩⟩⟩
    exact ⟨_, p, us, _, rfl, hp, hP, wf.joints, wf.n24, fun H2 q s2 nq hq => k H2 q (s1.trans s2) (s1.free nq) hq⟩
def sp_Net_are_joined (t : Adr) : Sp := fun vs H Q _ => ∃ (R : Root) (s : Ss) (a b : Nat), vs = [.ref R.nt, .int a, .int b] ∧ Rep t R s H ∧ Wf s ∧ a < s.nodes.length ∧ b < s.nodes.length ∧ ∀ H', Same H H' → Q (.bl (Vbdlad.joined s a b)) H'
theorem g_Net_are_joined (T : Txt K mg t) : GMe P w K mg base 4 t.cN "are_joined" ["self", "a", "b"] (sp_Net_are_joined t) := by
  refine T.f_Net_are_joined.ok sc_Net_are_joined bn_Net_are_joined ?len ?body
  case len =>
    intro vs H Q E h
    obtain ⟨R, s, a, b, rfl, _⟩ := h
    rfl
  case body =>
    intro f cdv A outer s' H vs Q E hr h
    obtain ⟨R, s, a, b, rfl, h, wf, ha, hb, k⟩ := h
    refine ⟨_, (pss_cons (ps_set (i := 3) sc_Net_are_joined.nd rfl (Or.inl rfl) (pe_me0 (pv 0) T.c_Net (g_Net_islands T) (hr.mono (by decide))))
      (pss_one (ps_ret (pe_cmpR op_eq (pe_ix ix_list (pv 3) (pv 1) (fun _ _ => rfl)) (pe_ix ix_list (pv 3) (pv 2) (fun _ _ => rfl)) (nomark _))))), ?_⟩
    refine ⟨_, rfl, me_N h ⟨R, s, rfl, h, wf, fun H1 p s1 np hp => ?_⟩⟩
    have hl := leastJ_len s.nodes.length (Vbdlad.joints s) wf.joints
    refine ⟨_, rfl, _, rfl, ⟨_, _, _, _, rfl, rfl, SqL.of hp, at_of rfl (n_at (by omega)), _, rfl, _, rfl, ⟨_, _, _, _, rfl, rfl, SqL.of hp, at_of rfl (n_at (by omega)), rfl, ?_⟩⟩⟩
    rw [intEq, ← joined_eq wf ha hb]
    exact k H1 s1
end
end Pn

set_option Elab.async false
set_option linter.all false
set_option maxRecDepth 100000
set_option maxHeartbeats 2000000
namespace Pn
open PySem PySem.Spec PyProof.Rows L2
section
variable {P : Program} {w : World} {K : PySem.W.Frag} {mg : Str → Option Value} {base : Heap} {t : Adr}
def sp_Net_pairs_joined_by (t : Adr) : Sp := fun vs H Q _ => ∃ (R : Root) (s : Ss) (a b : Nat), vs = [.ref R.nt, .int a, .int b] ∧ Rep t R s H ∧ Wf s ∧ a < s.nodes.length ∧ b < s.nodes.length ∧
  ∀ H' p us, Same H H' → H p = none → H' p = some (rL us) → Prs H' us (Vbdlad.wouldJoin s a b) → Q (.ref p) H'
theorem g_Net_pairs_joined_by (T : Txt K mg t) : GMe P w K mg base 3 t.cN "pairs_joined_by" ["self", "a", "b"] (sp_Net_pairs_joined_by t) := by
  refine T.f_Net_pairs_joined_by.ok sc_Net_pairs_joined_by bn_Net_pairs_joined_by ?len ?body
  case len =>
    intro vs H Q E h
    obtain ⟨R, s, a, b, rfl, _⟩ := h
    rfl
  case body =>
    intro f cdv A outer s' H vs Q E hr h
    obtain ⟨R, s, a, b, rfl, h, wf, ha, hb, k⟩ := h
    refine ⟨_, (pss_cons (ps_set (i := 3) sc_Net_pairs_joined_by.nd rfl (Or.inr rfl) (pe_fn (g_least_joined T) (hr.mono (by decide)) rfl (pac (pe_blt call_ln rfl T.b_len PySem.boot_len (pac (pe_at (pv 0)) pa_nil)) (pac (pe_op op_cat (pe_me0 (pv 0) T.c_Net (g_Net_links T) (hr.mono (by decide))) (pe_lst (pac (pe_tup (pac (pv 1) (pac (pv 2) pa_nil))) pa_nil))) pa_nil))))
      (pss_one (ps_ret (pe_lc rfl sc_Net_pairs_joined_by.nd (pi_list (pe_at (pv 0))) (blkOk_by (N := ["self", "a", "b", "least", "pair"]) (sc := defScope s_Net_pairs_joined_by) (own := [("pair", 4)]) (by decide +kernel)) (fun _ _ _ _ _ => (pg_name (i := 4) sc_Net_pairs_joined_by.nd rfl (Or.inl rfl))) (fun _ _ _ _ _ => (pts_one (pt_cmpR op_eq (pe_ix (ix_listK K) (pv 3) (pe_ix (ix_tupK K) (pv 4) pe_int (fun _ _ => rfl)) (fun _ _ => rfl)) (pe_ix (ix_listK K) (pv 3) (pe_ix (ix_tupK K) (pv 4) pe_int (fun _ _ => rfl)) (fun _ _ => rfl)) (nomark _)))) (fun _ _ _ _ _ => (pv 4)))))), ?_⟩
    refine ⟨_, rfl, rd_flags T h ⟨_, s.nodes.length, rfl, LenIs.of h.lf (by simp), _, rfl, me_N h ⟨R, s, rfl, h, wf.piL, wf.vaL, fun H1 p us s1 np hp hP => ?_⟩⟩⟩
    refine ⟨_, rfl, _, rfl, sz (by show 2 ≤ 1000000; decide), fun p2 np2 => ⟨sz (by show 1 ≤ 1000000; decide), fun p3 np3 => ?_⟩⟩
    have s2 : Same H1 (upd H1 p2 (.tup [.int a, .int b])) := Same.new np2
    have s3 : Same (upd H1 p2 (.tup [.int a, .int b])) (upd (upd H1 p2 (.tup [.int a, .int b])) p3 (.lst [.ref p2])) := Same.new np3
    have hP2 : p2 ≠ p3 := ne_of_none upd_same np3
    have jl : (Vbdlad.joints s).length ≤ 96 := by
      unfold Vbdlad.joints
      rw [List.length_append, List.length_map]
      have := List.length_filter_le Vbdlad.counts s.valves
      have := wf.piL
      have := wf.vaL
      omega
    refine ⟨p, p3, _, _, rfl, rfl, s3 _ _ (s2 _ _ hp), upd_same, sz (by rw [List.length_map, hP.len]; show _ + 1 ≤ _; omega), fun p4 np4 => ?_⟩
    have s4 := Same.new (o := .lst (us.map V.ref ++ [.ref p2])) np4
    have hP4 : Prs (upd (upd (upd H1 p2 (.tup [.int a, .int b])) p3 (.lst [.ref p2])) p4 (.lst (us.map V.ref ++ [.ref p2]))) (us ++ [p2]) (Vbdlad.joints s ++ [(a, b)]) :=
      (((hP.same s2).same s3).same s4).snoc (s4 _ _ (s3 _ _ upd_same))
    refine ⟨_, p4, us ++ [p2], _, rfl, by rw [upd_same]; simp [rL], hP4, wf.joints.snoc ha hb, wf.n24, fun H5 q s5 nq hq => ?_⟩
    have s05 : Same H H5 := (((s1.trans s2).trans s3).trans s4).trans s5
    have hR := h.same s05
    have hl := leastJ_len s.nodes.length (Vbdlad.joints s ++ [(a, b)]) (wf.joints.snoc ha hb)
    generalize hL : leastJ s.nodes.length (Vbdlad.joints s ++ [(a, b)]) = L at hq hl
    have ew : Vbdlad.wouldJoin s a b = s.forbidden.filter fun p => decide (L.getD p.1 0 = L.getD p.2 0) := by rw [would_eq wf ha hb, hL]; rfl
    refine ⟨_, rfl, rd_forbidden T hR ⟨R.lo, rfl, ⟨_, SqL.of hR.lo⟩, fun D nD => ?_⟩⟩
    refine lc_list (K := K) (a := R.lo) (xs := R.fo.map V.ref) (fun j H2 => Same H5 H2 ∧ ∃ us, H2 D = some (rL us) ∧ Prs H2 us ((s.forbidden.take j).filter fun p => decide (L.getD p.1 0 = L.getD p.2 0))) ⟨Same.new nD, [], upd_same, Prs.nil⟩ (fun j H2 _ ⟨s2, _⟩ => SqL.of (s2 _ _ hR.lo)) ?_ ?_
    · rintro j y H2 hj ⟨s2, us, hD, hP⟩
      obtain ⟨c, hc, rfl⟩ := map_at hj
      obtain ⟨q2, hq2, hc2⟩ := hR.fo.at_ j c hc
      have hb2 := wf.fo q2 (List.mem_of_getElem? hq2)
      have hlen : us.length ≤ 24 := by
        rw [hP.len]
        have := List.length_filter_le (fun p : Nat × Nat => decide (L.getD p.1 0 = L.getD p.2 0)) (s.forbidden.take j)
        rw [List.length_take] at this
        have := wf.foL
        omega
      refine ⟨rfl, ⟨_, rfl, _, rfl, ⟨_, _, _, _, rfl, rfl, SqT.of (s2 _ _ hc2), rfl, ⟨_, _, _, _, rfl, rfl, SqL.of (s2 _ _ hq), at_of rfl (n_at (by omega)), _, rfl, _, rfl, ⟨_, _, _, _, rfl, rfl, SqT.of (s2 _ _ hc2), rfl, ⟨_, _, _, _, rfl, rfl, SqL.of (s2 _ _ hq), at_of rfl (n_at (by omega)), rfl, _, rfl, ?_⟩⟩⟩⟩⟩⟩
      rw [intEq]
      refine ite_b (fun e => ?_) (fun e => ?_)
      · refine ⟨_, rfl, _, hD, szl (by rw [List.length_map]; omega), fun b o e => ?_, us ++ [c], ?_, ?_⟩
        · rw [upd_ne (ne_of_none e nD)]
          exact s2 b o e
        · rw [upd_same]
          simp [rL]
        · rw [take_snoc hq2, List.filter_append, List.filter_cons, if_pos e]
          have cD : c ≠ D := ne_of (s2 _ _ hc2) hD nofun
          exact (hP.put hD).snoc (by rw [upd_ne cD]; exact s2 _ _ hc2)
      · refine ⟨s2, us, hD, ?_⟩
        rw [take_snoc hq2, List.filter_append, List.filter_cons, if_neg (by simp only [e]; exact Bool.false_ne_true), List.filter_nil, List.append_nil]
        exact hP
    · rintro H2 ⟨s2, us, hD, hP⟩
      rw [List.length_map, h.fo.len, List.take_length, ← ew] at hP
      exact k H2 D us (s05.trans s2) (s05.free nD) hD hP
/-- the pair as it was forbidden, either way round -/
def AsFb (js : Js) (a b : Nat) (H : Hp) (v : V) : Prop := if (a, b) ∈ js then ∃ q, v = .ref q ∧ H q = some (tup2 (a, b)) else if (b, a) ∈ js then ∃ q, v = .ref q ∧ H q = some (tup2 (b, a)) else v = .non
def sp_Net_forbidden_as (t : Adr) : Sp := fun vs H Q _ => ∃ (R : Root) (s : Ss) (a b : Nat), vs = [.ref R.nt, .int a, .int b] ∧ Rep t R s H ∧ ∀ H' v, Same H H' → AsFb s.forbidden a b H' v → Q v H'
theorem g_Net_forbidden_as (T : Txt K mg t) : GMe P w K mg base 1 t.cN "forbidden_as" ["self", "a", "b"] (sp_Net_forbidden_as t) := by
  refine T.f_Net_forbidden_as.ok sc_Net_forbidden_as bn_Net_forbidden_as ?len ?body
  case len =>
    intro vs H Q E h
    obtain ⟨R, s, a, b, rfl, _⟩ := h
    rfl
  case body =>
    intro f cdv A outer s' H vs Q E hr h
    obtain ⟨R, s, a, b, rfl, h, k⟩ := h
    refine ⟨_, (pss_cons (ps_for PassesOwn.never rfl (pi_list (pe_lst (pac (pe_tup (pac (pv 1) (pac (pv 2) pa_nil))) (pac (pe_tup (pac (pv 2) (pac (pv 1) pa_nil))) pa_nil)))) (pg_name (i := 3) sc_Net_forbidden_as.nd rfl (Or.inl rfl)) (pss_one (ps_if (pt_cmpR (op_in_tups hr) (pv 3) (pe_at (pv 0)) (by with_unfolding_all rfl)) (pss_one (ps_ret (pv 3))) pss_nil)))
      (pss_one (ps_ret pe_non))), ?_⟩
    refine ⟨_, rfl, _, rfl, sz (by show 2 ≤ 1000000; decide), fun p1 n1 => ⟨_, rfl, _, rfl, sz (by show 2 ≤ 1000000; decide), fun p2 n2 => ⟨sz (by show 2 ≤ 1000000; decide), fun l nl => ?_⟩⟩⟩
    have s1 : Same H (upd H p1 (.tup [.int a, .int b])) := Same.new n1
    have s2 := Same.new (o := .tup [.int b, .int a]) n2
    have s3 := Same.new (o := .lst [.ref p1, .ref p2]) nl
    have e1 := s3 _ _ (s2 _ _ (upd_same (H := H) (a := p1) (o := .tup [.int a, .int b])))
    have e2 := s3 _ _ (upd_same (H := upd H p1 (.tup [.int a, .int b])) (a := p2) (o := .tup [.int b, .int a]))
    have s03 := (s1.trans s2).trans s3
    generalize hH4 : upd (upd (upd H p1 (.tup [.int a, .int b])) p2 (.tup [.int b, .int a])) l (.lst [.ref p1, .ref p2]) = H4 at e1 e2 s03 s3 ⊢
    have el : H4 l = some (.lst [.ref p1, .ref p2]) := by rw [← hH4]; exact upd_same
    have hR := h.same s03
    refine ⟨l, rfl, ⟨_, SqL.of el⟩, for_list (K := K) (a := l) (xs := [.ref p1, .ref p2]) (fun i σ H' => H' = H4 ∧ (∃ v, σ = [some (.ref R.nt), some (.int a), some (.int b), v]) ∧ (1 ≤ i → (a, b) ∉ s.forbidden) ∧ (2 ≤ i → (b, a) ∉ s.forbidden))
      ⟨rfl, ⟨_, rfl⟩, by omega, by omega⟩ (fun i σ H' _ ⟨e, _⟩ => by rw [e]; exact SqL.of el) ?_ ?_⟩
    · rintro i y σ H' hi ⟨rfl, ⟨v, rfl⟩, c1, c2⟩
      match i, hi with
      | 0, hi =>
        cases hi
        refine ⟨_, rfl, _, rfl, rd_forbidden T hR ⟨_, R.lo, R.fo, _, (a, b), rfl, rfl, e1, hR.lo, hR.fo, _, rfl, ?_⟩⟩
        refine ite_b (fun e => ?_) (fun e => ?_)
        · refine ⟨_, rfl, k _ _ s03 ?_⟩
          unfold AsFb
          rw [if_pos (of_decide_eq_true e)]
          exact ⟨p1, rfl, e1⟩
        · exact ⟨rfl, ⟨_, rfl⟩, fun _ => of_decide_eq_false e, by omega⟩
      | 1, hi =>
        cases hi
        refine ⟨_, rfl, _, rfl, rd_forbidden T hR ⟨_, R.lo, R.fo, _, (b, a), rfl, rfl, e2, hR.lo, hR.fo, _, rfl, ?_⟩⟩
        refine ite_b (fun e => ?_) (fun e => ?_)
        · refine ⟨_, rfl, k _ _ s03 ?_⟩
          unfold AsFb
          rw [if_neg (c1 (by omega)), if_pos (of_decide_eq_true e)]
          exact ⟨p2, rfl, e2⟩
        · exact ⟨rfl, ⟨_, rfl⟩, fun _ => c1 (by omega), fun _ => of_decide_eq_false e⟩
      | i + 2, hi => simp at hi
    · rintro σ H' ⟨rfl, ⟨v, rfl⟩, c1, c2⟩
      refine k _ _ s03 ?_
      unfold AsFb
      rw [if_neg (c1 (by show 1 ≤ 2; decide)), if_neg (c2 (by show 2 ≤ 2; decide))]
theorem eraseIdx_prs {H : Hp} {us : List Addr} {js : Js} (hp : Prs H us js) (j : Nat) : Prs H (us.eraseIdx j) (js.eraseIdx j) := by
  refine ⟨by rw [List.length_eraseIdx, List.length_eraseIdx, hp.len], fun i a e => ?_⟩
  rw [List.getElem?_eraseIdx] at e
  rw [List.getElem?_eraseIdx]
  split at e
  · rename_i hij
    rw [if_pos hij]
    exact hp.at_ i a e
  · rename_i hij
    rw [if_neg hij]
    exact hp.at_ (i + 1) a e
/-- the first place of a member, and the list without it -/
theorem first_of {q : Nat × Nat} : ∀ {js : Js}, q ∈ js → ∃ j : Nat, js[j]? = some q ∧ (∀ (m : Nat) p, m < j → js[m]? = some p → p ≠ q) ∧ js.eraseIdx j = js.erase q
  | [], h => by cases h
  | p :: js, h => by
    by_cases e : p = q
    · subst e
      exact ⟨0, rfl, fun m _ hm => absurd hm (Nat.not_lt_zero _), by simp⟩
    · have h' : q ∈ js := (List.mem_cons.mp h).resolve_left fun z => e z.symm
      obtain ⟨j, h1, h2, h3⟩ := first_of h'
      refine ⟨j + 1, h1, fun m p' hm hp => ?_, ?_⟩
      · match m, hp with
        | 0, hp =>
          cases hp
          exact e
        | m + 1, hp => exact h2 m p' (by omega) hp
      · rw [List.eraseIdx_cons_succ, h3, List.erase_cons_tail (by simpa using e)]
def sp_Net_is_bridge (t : Adr) : Sp := fun vs H Q _ => ∃ (R : Root) (s : Ss) (i : Nat) (a : Addr), vs = [.ref R.nt, .ref a] ∧ Rep t R s H ∧ Wf s ∧ R.vs[i]? = some a ∧ ∀ H', Same H H' → Q (.bl (Vbdlad.bridge s i)) H'
theorem g_Net_is_bridge (T : Txt K mg t) : GMe P w K mg base 3 t.cN "is_bridge" ["self", "valve"] (sp_Net_is_bridge t) := by
  refine T.f_Net_is_bridge.ok sc_Net_is_bridge bn_Net_is_bridge ?len ?body
  case len =>
    intro vs H Q E h
    obtain ⟨R, s, i, a, rfl, _⟩ := h
    rfl
  case body =>
    intro f cdv A outer s' H vs Q E hr h
    obtain ⟨R, s, i, a, rfl, h, wf, hi, k⟩ := h
    refine ⟨_, (pss_cons (ps_if (pt_not (pt_val (pe_me0 (pv 1) T.c_Valve (g_Valve_counts_as_open T) (hr.mono (by decide))))) (pss_one (ps_ret pe_bl)) pss_nil)
      (pss_cons (ps_set (i := 2) sc_Net_is_bridge.nd rfl (Or.inl rfl) (pe_me0 (pv 0) T.c_Net (g_Net_links T) (hr.mono (by decide))))
      (pss_cons (ps_expr (pe_lm PySem.F.slot_list_remove PySem.F.type_list_remove (mt_removeT hr) (pv 2) (pac (pe_tup (pac (pe_at (pv 1)) (pac (pe_at (pv 1)) pa_nil))) pa_nil)))
      (pss_cons (ps_set (i := 3) sc_Net_is_bridge.nd rfl (Or.inl rfl) (pe_fn (g_least_joined T) (hr.mono (by decide)) rfl (pac (pe_blt call_ln rfl T.b_len PySem.boot_len (pac (pe_at (pv 0)) pa_nil)) (pac (pv 2) pa_nil))))
      (pss_one (ps_ret (pe_cmpR op_ne (pe_ix ix_list (pv 3) (pe_at (pv 1)) (fun _ _ => rfl)) (pe_ix ix_list (pv 3) (pe_at (pv 1)) (fun _ _ => rfl)) (nomark _)))))))), ?_⟩
    obtain ⟨v, hv, hva⟩ := h.vs.at_ i a hi
    rw [bridge_eq wf hv] at k
    refine ⟨_, rfl, me_V hva ⟨_, _, rfl, hva, _, rfl, ?_⟩⟩
    cases hc : Vbdlad.counts v with
    | false =>
      rw [hc, Bool.false_and] at k
      exact k H (Same.refl H)
    | true =>
      rw [hc, Bool.true_and] at k
      refine ⟨_, rfl, me_N h ⟨R, s, rfl, h, wf.piL, wf.vaL, fun H1 p us s1 np hp hP => ?_⟩⟩
      have hva1 : VaAt t H1 a v := hva.same fun o e => s1 _ _ e
      refine ⟨_, rfl, .inl ⟨rfl, _, SqL.of hp⟩, _, rfl, rd_V_a T hva1 ⟨_, rfl, rd_V_b T hva1 ⟨sz (by show 2 ≤ 1000000; decide), fun p2 np2 => ?_⟩⟩⟩
      have s2 : Same H1 (upd H1 p2 (.tup [.int v.a, .int v.b])) := Same.new np2
      have hmem : (v.a, v.b) ∈ Vbdlad.joints s := by
        unfold Vbdlad.joints
        refine List.mem_append_right _ (List.mem_map.mpr ⟨v, List.mem_filter.mpr ⟨List.mem_of_getElem? hv, hc⟩, rfl⟩)
      obtain ⟨j, f1, f2, f3⟩ := first_of hmem
      refine ⟨p, p2, us, _, (v.a, v.b), j, rfl, rfl, s2 _ _ hp, hP.same s2, upd_same, f1, f2, ?_⟩
      have hp2 := s2 _ _ hp
      have hPe : Prs (upd (upd H1 p2 (.tup [.int v.a, .int v.b])) p (.lst ((us.eraseIdx j).map V.ref))) (us.eraseIdx j) ((Vbdlad.joints s).erase (v.a, v.b)) := by
        rw [← f3]
        exact (eraseIdx_prs (hP.same s2) j).put hp2
      have s3 : Same H (upd (upd H1 p2 (.tup [.int v.a, .int v.b])) p (.lst ((us.eraseIdx j).map V.ref))) := fun b o e => by
        rw [upd_ne (ne_of_none e np)]
        exact s2 _ _ (s1 _ _ e)
      have hbl : Below s.nodes.length ((Vbdlad.joints s).erase (v.a, v.b)) := fun q hq => wf.joints q (List.mem_of_mem_erase hq)
      have hR := h.same s3
      have wv := wf.va v (List.mem_of_getElem? hv)
      have hva3 : VaAt t _ a v := hva.same fun o e => s3 _ _ e
      refine ⟨_, rfl, rd_flags T hR ⟨_, s.nodes.length, rfl, LenIs.of hR.lf (by simp), _, rfl, ⟨_, p, us.eraseIdx j, _, rfl, upd_same, hPe, hbl, wf.n24, fun H4 q s4 nq hq => ?_⟩⟩⟩
      have hva4 : VaAt t H4 a v := hva3.same fun o e => s4 _ _ e
      have hl := leastJ_len s.nodes.length _ hbl
      refine ⟨_, rfl, _, rfl, rd_V_a T hva4 ⟨_, _, _, _, rfl, rfl, SqL.of hq, at_of rfl (n_at (by rw [hl]; exact wv.a)), _, rfl, _, rfl, rd_V_b T hva4 ⟨_, _, _, _, rfl, rfl, SqL.of hq, at_of rfl (n_at (by rw [hl]; exact wv.b)), rfl, ?_⟩⟩⟩
      rw [intEq]
      exact k H4 (s3.trans s4)
end
end Pn

set_option Elab.async false
set_option linter.all false
set_option maxRecDepth 100000
set_option maxHeartbeats 2000000
namespace Pn
open PySem PySem.Spec PyProof.Rows L2
section
variable {P : Program} {w : World} {K : PySem.W.Frag} {mg : Str → Option Value} {base : Heap} {t : Adr}
theorem range_take {n j : Nat} (h : j < n) : (List.range n).take (j + 1) = (List.range n).take j ++ [j] := take_snoc (by simp [h])
def sp_Net_bridges (t : Adr) : Sp := fun vs H Q _ => ∃ (R : Root) (s : Ss), vs = [.ref R.nt] ∧ Rep t R s H ∧ Wf s ∧ ∀ H' p, Same H H' → H p = none → H' p = some (nL ((List.range s.valves.length).filter fun i => Vbdlad.bridge s i)) → Q (.ref p) H'
theorem g_Net_bridges (T : Txt K mg t) : GMe P w K mg base 4 t.cN "bridges" ["self"] (sp_Net_bridges t) := by
  refine T.f_Net_bridges.ok sc_Net_bridges bn_Net_bridges ?len ?body
  case len =>
    intro vs H Q E h
    obtain ⟨R, s, rfl, _⟩ := h
    rfl
  case body =>
    intro f cdv A outer s' H vs Q E hr h
    obtain ⟨R, s, rfl, h, wf, k⟩ := h
    refine ⟨_, (pss_one (ps_ret (pe_lc rfl sc_Net_bridges.nd (pi_enum rfl T.b_enumerate (pac (pe_at (pv 0)) pa_nil)) (blkOk_by (N := ["self", "v", "valve"]) (sc := defScope s_Net_bridges) (own := [("v", 1), ("valve", 2)]) (by decide +kernel)) (fun _ _ _ _ _ => (pg_tupK K (n := 2) rfl (pgs_cons (pg_name (i := 1) sc_Net_bridges.nd rfl (Or.inl rfl)) (pgs_cons (pg_name (i := 2) sc_Net_bridges.nd rfl (Or.inl rfl)) pgs_nil)))) (fun _ _ _ _ _ => (pts_one (pt_val (pe_me (pv 0) T.c_Net (g_Net_is_bridge T) (hr.mono (by decide)) (pac (pv 2) pa_nil))))) (fun _ _ _ _ _ => (pv 1))))), ?_⟩
    refine ⟨_, rfl, rd_valves T h ⟨R.lv, _, rfl, SqL.of h.lv, fun D nD => ?_⟩⟩
    refine lc_enum (K := K) (a := R.lv) (xs := R.vs.map V.ref) (fun j H2 => Same H H2 ∧ H2 D = some (nL (((List.range s.valves.length).take j).filter fun i => Vbdlad.bridge s i))) ⟨Same.new nD, upd_same⟩ (fun j H2 ⟨s2, _⟩ => SqL.of (s2 _ _ h.lv)) ?_ ?_
    · rintro j y Tt H2 hj nT ⟨s2, hD⟩
      obtain ⟨a, ha, rfl⟩ := map_at hj
      have hjl : j < s.valves.length := by rw [← h.vs.len]; exact (List.getElem?_eq_some_iff.mp ha).1
      have s3 : Same H2 (upd H2 Tt (.tup [.int (j : Nat), .ref a])) := Same.new nT
      have hR := h.same (s2.trans s3)
      refine ⟨Tt, _, rfl, SqT.of upd_same, rfl, _, _, rfl, _, _, rfl, rfl, rfl, ?_⟩
      refine ⟨_, rfl, me_N hR ⟨_, rfl, ⟨R, s, j, a, rfl, hR, wf, ha, fun H4 s4 => ⟨_, rfl, ?_⟩⟩⟩⟩
      have s04 := (s2.trans s3).trans s4
      have hD4 := s4 _ _ (s3 _ _ hD)
      refine ite_b (fun e => ?_) (fun e => ?_)
      · refine ⟨_, rfl, _, hD4, szl ?_, fun b o q => ?_, ?_⟩
        · rw [List.length_map]
          have := List.length_filter_le (fun i => Vbdlad.bridge s i) ((List.range s.valves.length).take j)
          rw [List.length_take, List.length_range] at this
          have := wf.vaL
          omega
        · rw [upd_ne (ne_of_none q nD)]
          exact s04 b o q
        · rw [upd_same, range_take hjl, List.filter_append, List.filter_cons, if_pos e]
          simp [nL]
      · refine ⟨s04, ?_⟩
        rw [range_take hjl, List.filter_append, List.filter_cons, if_neg (by simp [e]), List.filter_nil, List.append_nil]
        exact hD4
    · rintro H2 ⟨s2, hD⟩
      rw [List.length_map, h.vs.len, List.take_of_length_le (by simp)] at hD
      exact k H2 D s2 nD hD
def sp_Net_flow (t : Adr) : Sp := fun vs H Q _ => ∃ (R : Root) (s : Ss), vs = [.ref R.nt] ∧ Rep t R s H ∧ Wf s ∧ ∀ H' p, Same H H' → H p = none → FlAt t H' p (fedOf s) (drainedOf s) → Q (.ref p) H'
theorem g_Net_flow (T : Txt K mg t) : GMe P w K mg base 4 t.cN "flow" ["self"] (sp_Net_flow t) := by
  refine T.f_Net_flow.ok sc_Net_flow bn_Net_flow ?len ?body
  case len =>
    intro vs H Q E h
    obtain ⟨R, s, rfl, _⟩ := h
    rfl
  case body =>
    intro f cdv A outer s' H vs Q E hr h
    obtain ⟨R, s, rfl, h, wf, k⟩ := h
    refine ⟨_, (pss_one (ps_ret (pe_mk (g_Flow_init T) (hr.mono (by decide)) rfl (pac (pe_me0 (pv 0) T.c_Net (g_Net_islands T) (hr.mono (by decide))) (pac (pe_at (pv 0)) pa_nil))))), ?_⟩
    refine ⟨_, rfl, me_N h ⟨R, s, rfl, h, wf, fun H1 p s1 np hp => ?_⟩⟩
    have hR := h.same s1
    have hl := leastJ_len s.nodes.length (Vbdlad.joints s) wf.joints
    refine ⟨_, rfl, rd_flags T hR fun x dx nx nd ne => ?_⟩
    have s2 : Same H1 (upd (upd H1 dx (.own x)) x (.ins t.cF dx [])) := (Same.new nd).trans (Same.new (by rw [upd_ne (Ne.symm ne)]; exact nx))
    refine ⟨x, dx, p, R.lf, _, s.nodes, rfl, upd_same, s2 _ _ hp, s2 _ _ hR.lf, hl, by rw [hl]; exact wf.n24, wf.fl, fun H3 h3 b3 => ⟨rfl, ?_⟩⟩
    have s3 : Same H1 H3 := Same.made nx nd b3
    exact k H3 x (s1.trans s3) (s1.free nx) h3
/-- the first i valves have moved -/
def mvd (i : Nat) (l : List Va) : List Va := (l.take i).map Vbdlad.moveValve ++ l.drop i
theorem mvd_at {l : List Va} {i : Nat} {v : Va} (h : l[i]? = some v) : (mvd i l)[i]? = some v := by
  have hi := (List.getElem?_eq_some_iff.mp h).1
  have hl : ((l.take i).map Vbdlad.moveValve).length = i := by simp; omega
  unfold mvd
  rw [List.getElem?_append_right (by omega), hl, List.getElem?_drop, Nat.sub_self, Nat.add_zero]
  exact h
theorem mvd_succ {l : List Va} {i : Nat} {v : Va} (h : l[i]? = some v) : (mvd i l).set i (Vbdlad.moveValve v) = mvd (i + 1) l := by
  have hi := (List.getElem?_eq_some_iff.mp h).1
  have hl : ((l.take i).map Vbdlad.moveValve).length = i := by simp; omega
  have hd : l.drop i = v :: l.drop (i + 1) := by
    rw [List.drop_eq_getElem_cons hi, (List.getElem?_eq_some_iff.mp h).2]
  unfold mvd
  rw [List.set_append_right _ _ (by omega), hl, Nat.sub_self, hd, List.set_cons_zero, take_snoc h, List.map_append, List.append_assoc]
  rfl
def chg (l : List Va) : Bool := l.any fun v => Vbdlad.counts v != Vbdlad.counts (Vbdlad.moveValve v)
def sp_Net_move_valves (t : Adr) : Sp := fun vs H Q _ => ∃ (R : Root) (s : Ss), vs = [.ref R.nt] ∧ Rep t R s H ∧ ∀ H', Rep t R { s with valves := s.valves.map Vbdlad.moveValve } H' → (∀ b o, H b = some o → b ∉ R.vs → H' b = some o) → Q (.bl (chg s.valves)) H'
theorem g_Net_move_valves (T : Txt K mg t) : GMe P w K mg base 2 t.cN "move_valves" ["self"] (sp_Net_move_valves t) := by
  refine T.f_Net_move_valves.ok sc_Net_move_valves bn_Net_move_valves ?len ?body
  case len =>
    intro vs H Q E h
    obtain ⟨R, s, rfl, _⟩ := h
    rfl
  case body =>
    intro f cdv A outer s' H vs Q E hr h
    obtain ⟨R, s, rfl, h, k⟩ := h
    refine ⟨_, (pss_cons (ps_set (i := 1) sc_Net_move_valves.nd rfl (Or.inl rfl) pe_bl)
      (pss_cons (ps_for PassesOwn.never rfl (pi_list (pe_at (pv 0))) (pg_name (i := 2) sc_Net_move_valves.nd rfl (Or.inl rfl)) (pss_cons (ps_set (i := 3) sc_Net_move_valves.nd rfl (Or.inl rfl) (pe_me0 (pv 2) T.c_Valve (g_Valve_counts_as_open T) (hr.mono (by decide))))
      (pss_cons (ps_expr (pe_me0 (pv 2) T.c_Valve (g_Valve_move T) (hr.mono (by decide))))
      (pss_one (ps_if (pt_cmpR op_ne (pv 3) (pe_me0 (pv 2) T.c_Valve (g_Valve_counts_as_open T) (hr.mono (by decide))) (nomark _)) (pss_one (ps_set (i := 1) sc_Net_move_valves.nd rfl (Or.inl rfl) pe_bl)) pss_nil)))))
      (pss_one (ps_ret (pv 1))))), ?_⟩
    refine ⟨_, rfl, rd_valves T h ⟨R.lv, rfl, ⟨_, SqL.of h.lv⟩, ?_⟩⟩
    refine for_list (K := K) (a := R.lv) (xs := R.vs.map V.ref) (fun i σ H' => (∃ v b, σ = [some (.ref R.nt), some (.bl (chg (s.valves.take i))), v, b]) ∧ Rep t R { s with valves := mvd i s.valves } H' ∧ ∀ b o, H b = some o → b ∉ R.vs → H' b = some o)
      ⟨⟨_, _, rfl⟩, h, fun b o e _ => e⟩ (fun i σ H' _ ⟨_, hR, _⟩ => SqL.of hR.lv) ?_ ?_
    · rintro i y σ H' hi ⟨⟨v0, b0, rfl⟩, hR, kp⟩
      obtain ⟨a, ha, rfl⟩ := map_at hi
      obtain ⟨v, hv, hva⟩ := hR.vs.at_ i a ha
      have hil : i < s.valves.length := by rw [← h.vs.len]; exact (List.getElem?_eq_some_iff.mp ha).1
      obtain ⟨v', hv'⟩ : ∃ v', s.valves[i]? = some v' := ⟨_, List.getElem?_eq_getElem hil⟩
      have hv2 : (mvd i s.valves)[i]? = some v := hv
      rw [mvd_at hv'] at hv2
      cases hv2
      refine ⟨_, rfl, me_V hva ⟨_, _, rfl, hva, ?_⟩⟩
      refine ⟨_, rfl, me_V hva ⟨_, _, rfl, hva, fun H1 h1 b1 => ?_⟩⟩
      have hR1 : Rep t R { s with valves := mvd (i + 1) s.valves } H1 := by
        have := hR.setValve ha h1 b1
        rw [show ({ s with valves := mvd i s.valves } : Ss).valves = mvd i s.valves from rfl, mvd_succ hv'] at this
        exact this
      have kp1 : ∀ b o, H b = some o → b ∉ R.vs → H1 b = some o := fun b o e n => b1 _ _ (kp b o e n) fun q => n (by rw [q]; exact List.mem_of_getElem? ha)
      have ec : chg (s.valves.take (i + 1)) = (chg (s.valves.take i) || (Vbdlad.counts v != Vbdlad.counts (Vbdlad.moveValve v))) := by
        unfold chg
        rw [take_snoc hv', List.any_append]
        simp
      refine ⟨_, rfl, _, rfl, me_V h1 ⟨_, _, rfl, h1, rfl, _, rfl, ?_⟩⟩
      have eb : (!decide (V.bl (Vbdlad.counts v) = V.bl (Vbdlad.counts (Vbdlad.moveValve v)))) = (Vbdlad.counts v != Vbdlad.counts (Vbdlad.moveValve v)) := by
        cases Vbdlad.counts v <;> cases Vbdlad.counts (Vbdlad.moveValve v) <;> decide
      rw [eb]
      refine ite_b (fun e => ?_) (fun e => ?_)
      · refine ⟨⟨some (.ref a), some (.bl (Vbdlad.counts v)), ?_⟩, hR1, kp1⟩
        rw [ec, e, Bool.or_true]
        rfl
      · refine ⟨⟨some (.ref a), some (.bl (Vbdlad.counts v)), ?_⟩, hR1, kp1⟩
        rw [ec, e, Bool.or_false]
        rfl
    · rintro σ H' ⟨⟨v0, b0, rfl⟩, hR, kp⟩
      rw [List.length_map, h.vs.len, List.take_length]
      have em : mvd (R.vs.map V.ref).length s.valves = s.valves.map Vbdlad.moveValve := by
        rw [List.length_map, h.vs.len]
        unfold mvd
        rw [List.take_length, List.drop_length, List.append_nil]
      rw [em] at hR
      exact ⟨_, rfl, k H' hR kp⟩
end
end Pn

set_option Elab.async false
set_option linter.all false
set_option maxRecDepth 100000
set_option maxHeartbeats 2000000
namespace Pn
open PySem PySem.Spec PyProof.Rows L2
section
variable {P : Program} {w : World} {K : PySem.W.Frag} {mg : Str → Option Value} {base : Heap} {t : Adr}
theorem upd2 {H : Hp} {a : Addr} {o u : HO} : upd (upd H a o) a u = upd H a u := by
  funext b
  unfold upd
  split <;> rfl
abbrev Drs (H : Hp) (ts : List Addr) (ds : List Door) : Prop := All2 (fun a d => H a = some (dtup d)) ts ds
theorem All2.drs {H H' : Hp} {ts : List Addr} {ds : List Door} (h : Drs H ts ds) (s : Same H H') : Drs H' ts ds := h.imp fun a _ _ e => s a _ e
def kvL (left : Left) : List (Key × V) := left.map fun q => (Sum.inl (q.1 : Int), V.int (q.2 : Nat))
def dL (left : Left) : HO := .dK (kvL left)
theorem val_lk (p : Nat) : ∀ left : Left, valV (kvL left) (Sum.inl (p : Int)) = (lk left p).map fun (d : Nat) => V.int d
  | [] => rfl
  | a :: r => by
    unfold valV kvL lk
    rw [List.map_cons, List.find?_cons]
    by_cases e : p = a.1
    · subst e
      simp
    · have e' : ¬ ((Sum.inl (a.1 : Int) : Key) = Sum.inl (p : Int)) := fun q => e (by injection q with q; omega)
      rw [if_neg e]
      simp only [e', decide_false]
      exact val_lk p r
theorem dget_lk {H : Hp} {a : Addr} {left : Left} {p d : Nat} (h : H a = some (dL left)) (e : lk left p = some d) : DGet H a (.int (p : Int)) (some (.int (d : Nat))) := by
  have q := DGet.k (k := Sum.inl (p : Int)) h
  rw [val_lk, e] at q
  exact q
theorem put_lk {left : Left} {r d : Nat} (h : lk left r = none) : putK (kvL left) (Sum.inl (r : Int)) (.int (d : Nat)) = kvL (left ++ [(r, d)]) := by
  rw [putK_new _ (by rw [val_lk, h]; rfl)]
  simp [kvL]
def sp_doors_left (t : Adr) : Sp := fun vs H Q _ => ∃ (l : Addr) (ts : List Addr) (ds : List Door) (goal : Nat), vs = [.ref l, .int goal] ∧ H l = some (rL ts) ∧ Drs H ts ds ∧ goal < 24 ∧ (∀ d, d ∈ ds → d.2.1 < 24 ∧ d.2.2 < 24) ∧
  ∀ H' p left, Same H H' → H p = none → H' p = some (dL left) → BDone ds goal left → Q (.ref p) H'
theorem g_doors_left (T : Txt K mg t) : GFn P w K mg base 2 "doors_left" ["doors", "goal"] (sp_doors_left t) := by
  refine T.f_doors_left.ok sc_doors_left bn_doors_left ?len ?body
  case len =>
    intro vs H Q E h
    obtain ⟨l, ts, ds, goal, rfl, _⟩ := h
    rfl
  case body =>
    intro f cdv A outer s' H vs Q E hr h
    obtain ⟨l, ts, ds, goal, rfl, hl, hD, hg, hb, k⟩ := h
    refine ⟨_, (pss_cons (ps_set (i := 2) sc_doors_left.nd rfl (Or.inl rfl) (pe_disp (pps_cons (pv 1) pe_int pps_nil) rfl rfl (by simp) (by decide)))
      (pss_cons (ps_set (i := 3) sc_doors_left.nd rfl (Or.inl rfl) (pe_lst (pac (pv 1) pa_nil)))
      (pss_cons (ps_while PassesOwn.never (pt_cmpR op_gt (pe_blt call_ln rfl T.b_len PySem.boot_len (pac (pv 3) pa_nil)) pe_int (nomark _)) (pss_cons (ps_set (i := 4) sc_doors_left.nd rfl (Or.inl rfl) (pe_lm PySem.F.slot_list_pop PySem.F.type_list_pop mt_popAt (pv 3) (pac pe_int pa_nil)))
      (pss_one (ps_for PassesOwn.never rfl (pi_list (pv 0)) (pg_name (i := 5) sc_doors_left.nd rfl (Or.inl rfl)) (pss_cons (ps_set (i := 6) sc_doors_left.nd rfl (Or.inl rfl) (pe_fn (g_beyond T) (hr.mono (by decide)) rfl (pac (pv 5) (pac (pv 4) pa_nil))))
      (pss_one (ps_if (pw_and (pt_cmpR op_notN (pv 6) pe_non (nomark _)) (pw_and1 (pt_cmp (pc_dnotin (hu_of hr) (pv 6) (pv 2))))).pt (pss_cons (ps_dput (hu_of hr) (pv 2) (pv 6) (pe_op op_add (pe_dget (hu_of hr) (pv 2) (pv 4) (fun _ _ => rfl)) pe_int) rfl)
      (pss_one (ps_expr (pe_lm PySem.F.slot_list_append PySem.F.type_list_append mt_append (pv 3) (pac (pv 6) pa_nil))))) pss_nil)))))))
      (pss_one (ps_ret (pv 2)))))), ?_⟩
    intro dl ndl
    refine ⟨_, rfl, upd_same, [(Sum.inl (goal : Int), .int (0 : Nat))], rfl, (by show 1 ≤ 15; decide), ?_⟩
    rw [upd2]
    refine ⟨_, rfl, sz (by show 1 ≤ 1000000; decide), fun tl ntl => ?_⟩
    have s0 : Same H (upd (upd H dl (.dK (mergeK [] [(Sum.inl (goal : Int), .int (0 : Nat))]))) tl (.lst [.int goal])) := (Same.new ndl).trans (Same.new ntl)
    have ntl0 : H tl = none := (Same.new ndl).free ntl
    have hdt : dl ≠ tl := ne_of_none upd_same ntl
    refine ⟨fun m σ H' => ∃ left todo a b c, σ = [some (.ref l), some (.int goal), some (.ref dl), some (.ref tl), a, b, c] ∧ Same H H' ∧ H' dl = some (dL left) ∧ H' tl = some (nL todo) ∧ BInv ds goal left todo ∧ KeysOk left ∧ todo.length ≤ left.length ∧ m = 2 * (24 - left.length) + todo.length,
      ⟨_, [(goal, 0)], [goal], _, _, _, rfl, s0, by rw [upd_ne hdt]; exact upd_same, upd_same, BInv.start ds goal, ⟨by simp, by simp; exact hg⟩, by simp, rfl⟩, ?_⟩
    rintro m σ H' ⟨left, todo, a, b, c, rfl, s1, hdl, htl, I, ko, hle, rfl⟩
    refine ⟨_, rfl, _, todo.length, rfl, LenIs.of htl (by simp), _, _, rfl, rfl, _, rfl, ?_⟩
    match todo, I, hle, htl with
    | [], I, hle, htl =>
      exact ⟨_, rfl, k H' dl left s1 ndl hdl I.fin⟩
    | here :: rest, I, hle, htl =>
      refine ite_b (fun _ => ?_) (fun e => absurd (of_decide_eq_false e) (by simp))
      have hk24 := ko.len
      refine ⟨fun σ' H2 => ∃ b c, σ' = [some (.ref l), some (.int goal), some (.ref dl), some (.ref tl), some (.int here), b, c] ∧ Same H H2 ∧ H2 dl = some (dL (bfsTurn ds here (left, rest)).1) ∧ H2 tl = some (nL (bfsTurn ds here (left, rest)).2), ?_, ?_⟩
      · rintro σ' H2 ⟨b, c, rfl, s2, h1, h2⟩
        obtain ⟨k1, k2, k3⟩ := bfsFold_keys (here := here) ds (left, rest) ko hb
        have k24 := k1.len
        have e1 : (bfsTurn ds here (left, rest)).1.length + rest.length = left.length + (bfsTurn ds here (left, rest)).2.length := k2
        have e2 : left.length ≤ (bfsTurn ds here (left, rest)).1.length := k3
        have e3 : (bfsTurn ds here (left, rest)).1.length ≤ 24 := k24
        simp only [List.length_cons] at hle
        refine ⟨_, ?_, _, _, _, b, c, rfl, s2, h1, h2, I.turn, k1, by omega, rfl⟩
        simp only [List.length_cons]
        omega
      · refine ⟨_, rfl, .inl ⟨rfl, _, SqL.of htl⟩, ⟨tl, _, 0, 0, _, rfl, rfl, htl, by decide, by decide, seqIndex_of (by decide) (by simp), rfl, ?_⟩⟩
        have htl2 : upd H' tl (.lst (List.eraseIdx ((here :: rest).map fun (n : Nat) => V.int n) 0)) tl = some (nL rest) := upd_same
        have hdt' : dl ≠ tl := hdt
        have hdl2 : upd H' tl (.lst (List.eraseIdx ((here :: rest).map fun (n : Nat) => V.int n) 0)) dl = some (dL left) := by rw [upd_ne hdt']; exact hdl
        have s2 : Same H (upd H' tl (.lst (List.eraseIdx ((here :: rest).map fun (n : Nat) => V.int n) 0))) := fun b o e => by
          rw [upd_ne (ne_of_none e ntl0)]
          exact s1 b o e
        generalize upd H' tl (.lst (List.eraseIdx ((here :: rest).map fun (n : Nat) => V.int n) 0)) = H2 at htl2 hdl2 s2 ⊢
        refine ⟨_, rfl, l, rfl, ⟨_, SqL.of (s2 _ _ hl)⟩, for_list (K := K) (a := l) (xs := ts.map V.ref) (fun i σ H3 => ∃ b c, σ = [some (.ref l), some (.int goal), some (.ref dl), some (.ref tl), some (.int here), b, c] ∧ Same H H3 ∧ H3 dl = some (dL ((ds.take i).foldl (bfsDoor here) (left, rest)).1) ∧ H3 tl = some (nL ((ds.take i).foldl (bfsDoor here) (left, rest)).2))
          ⟨_, _, rfl, s2, hdl2, htl2⟩ (fun i σ H3 _ ⟨_, _, _, s3, _⟩ => SqL.of (s3 _ _ hl)) ?_ ?_⟩
        · rintro i y σ H3 hi ⟨b, c, rfl, s3, h3, h4⟩
          obtain ⟨ad, had, rfl⟩ := map_at hi
          obtain ⟨d, hd, hda⟩ := hD.at_ i ad had
          have tI := TInv.fold (ds.take i) [] (left, rest) I.pop fun d hd => List.mem_of_mem_take hd
          have hkeys := bfsFold_keys (here := here) (ds.take i) (left, rest) ko fun d hd => hb d (List.mem_of_mem_take hd)
          have estep : (ds.take (i + 1)).foldl (bfsDoor here) (left, rest) = bfsDoor here ((ds.take i).foldl (bfsDoor here) (left, rest)) d := by
            rw [take_snoc hd, List.foldl_append]
            rfl
          rw [estep]
          generalize (ds.take i).foldl (bfsDoor here) (left, rest) = st at h3 h4 tI hkeys ⊢
          have hlen1 := hkeys.1.len
          have hlen2 := hkeys.2.1
          have hlen3 := hkeys.2.2
          simp only at hlen1 hlen2 hlen3
          simp only [List.length_cons] at hle
          refine ⟨_, rfl, _, rfl, ⟨ad, d, here, rfl, s3 _ _ hda, ?_⟩⟩
          refine ⟨_, rfl, rfl, _, rfl, ?_⟩
          cases hbd : beyondD d here with
          | none =>
            have es : bfsDoor here st d = st := by unfold bfsDoor; rw [hbd]
            rw [es]
            exact ⟨_, _, rfl, s3, h3, h4⟩
          | some r =>
            refine ⟨_, rfl, _, rfl, dl, _, rfl, DGet.k (k := Sum.inl (r : Int)) h3, _, rfl, ?_⟩
            rw [val_lk]
            cases hlk : lk st.1 r with
            | some e =>
              have es : bfsDoor here st d = st := by unfold bfsDoor; simp only [hbd, hlk]
              rw [es]
              exact ⟨_, _, rfl, s3, h3, h4⟩
            | none =>
              have es : bfsDoor here st d = (st.1 ++ [(r, dOf st.1 here + 1)], st.2 ++ [r]) := by unfold bfsDoor; simp only [hbd, hlk]
              rw [es]
              have hhere := tI.hr
              have edo := dOf_of hhere
              refine ⟨_, rfl, _, rfl, dl, _, rfl, dget_lk h3 hhere, _, _, rfl, rfl, _, rfl, _, rfl, dl, _, rfl, DPut.k (k := Sum.inl (r : Int)) h3 (szl (by unfold kvL; rw [List.length_map]; omega)), ?_⟩
              have ep : putK (kvL st.1) (Sum.inl (r : Int)) (.int ((dOf left here : Int) + 1)) = kvL (st.1 ++ [(r, dOf st.1 here + 1)]) := by
                rw [← put_lk hlk, edo]
                rfl
              rw [ep]
              have htl3 : upd H3 dl (.dK (kvL (st.1 ++ [(r, dOf st.1 here + 1)]))) tl = some (nL st.2) := by rw [upd_ne hdt'.symm]; exact h4
              refine ⟨_, rfl, .inl ⟨rfl, _, SqL.of htl3⟩, _, rfl, tl, _, _, rfl, rfl, htl3, szl (by rw [List.length_map]; omega), ?_⟩
              refine ⟨_, _, rfl, fun b o e => ?_, ?_, ?_⟩
              · rw [upd_ne (ne_of_none e ntl0), upd_ne (ne_of_none e ndl)]
                exact s3 b o e
              · rw [upd_ne hdt', upd_same]
                rfl
              · rw [upd_same]
                simp [nL, ov]
        · rintro σ H3 ⟨b, c, rfl, s3, h3, h4⟩
          rw [List.length_map, hD.len, List.take_length] at h3 h4
          exact ⟨_, _, rfl, s3, h3, h4⟩
end
end Pn

set_option Elab.async false
set_option linter.all false
set_option maxRecDepth 100000
set_option maxHeartbeats 2000000
namespace Pn
open PySem PySem.Spec PyProof.Rows L2
section
variable {P : Program} {w : World} {K : PySem.W.Frag} {mg : Str → Option Value} {base : Heap} {t : Adr}
def NearV (H : Hp) (o : Option Door) (v : V) : Prop := match o with
  | none => v = .non
  | some d => ∃ a, v = .ref a ∧ H a = some (dtup d)
def sp_door_nearer (t : Adr) : Sp := fun vs H Q _ => ∃ (l dl : Addr) (ts : List Addr) (ds : List Door) (left : Left) (here dh : Nat), vs = [.ref l, .ref dl, .int here] ∧ H l = some (rL ts) ∧ Drs H ts ds ∧ H dl = some (dL left) ∧ lk left here = some dh ∧
  (∀ d r, d ∈ ds → beyondD d here = some r → ∃ e, lk left r = some e) ∧ ∀ v, NearV H (ds.find? (nearD left here)) v → Q v H
theorem g_door_nearer (T : Txt K mg t) : GFn P w K mg base 2 "door_nearer" ["doors", "left", "here"] (sp_door_nearer t) := by
  refine T.f_door_nearer.ok sc_door_nearer bn_door_nearer ?len ?body
  case len =>
    intro vs H Q E h
    obtain ⟨l, dl, ts, ds, left, here, dh, rfl, _⟩ := h
    rfl
  case body =>
    intro f cdv A outer s' H vs Q E hr h
    obtain ⟨l, dl, ts, ds, left, here, dh, rfl, hl, hD, hdl, hh, hn, k⟩ := h
    refine ⟨_, (pss_cons (ps_for PassesOwn.never rfl (pi_list (pv 0)) (pg_name (i := 3) sc_door_nearer.nd rfl (Or.inl rfl)) (pss_cons (ps_set (i := 4) sc_door_nearer.nd rfl (Or.inl rfl) (pe_fn (g_beyond T) (hr.mono (by decide)) rfl (pac (pv 3) (pac (pv 2) pa_nil))))
      (pss_one (ps_if (pw_and (pt_cmpR op_notN (pv 4) pe_non (nomark _)) (pw_and1 (pt_cmpR op_lt (pe_dget (hu_of hr) (pv 1) (pv 4) (fun _ _ => rfl)) (pe_dget (hu_of hr) (pv 1) (pv 2) (fun _ _ => rfl)) (nomark _)))).pt (pss_one (ps_ret (pv 3))) pss_nil))))
      (pss_one (ps_ret pe_non))), ?_⟩
    refine ⟨_, rfl, l, rfl, ⟨_, SqL.of hl⟩, for_list (K := K) (a := l) (xs := ts.map V.ref) (fun i σ H' => H' = H ∧ (∃ a b, σ = [some (.ref l), some (.ref dl), some (.int here), a, b]) ∧ ds.find? (nearD left here) = (ds.drop i).find? (nearD left here))
      ⟨rfl, ⟨_, _, rfl⟩, rfl⟩ (fun i σ H' _ ⟨e, _⟩ => by rw [e]; exact SqL.of hl) ?_ ?_⟩
    · rintro i y σ H' hi ⟨rfl, ⟨a, b, rfl⟩, hf⟩
      obtain ⟨ad, had, rfl⟩ := map_at hi
      obtain ⟨d, hd, hda⟩ := hD.at_ i ad had
      have hil := (List.getElem?_eq_some_iff.mp hd).1
      have hdr : ds.drop i = d :: ds.drop (i + 1) := by rw [List.drop_eq_getElem_cons hil, (List.getElem?_eq_some_iff.mp hd).2]
      rw [hdr, List.find?_cons] at hf
      refine ⟨_, rfl, _, rfl, ⟨ad, d, here, rfl, hda, ?_⟩⟩
      refine ⟨_, rfl, rfl, _, rfl, ?_⟩
      cases hbd : beyondD d here with
      | none =>
        have en : nearD left here d = false := by unfold nearD; rw [hbd]
        rw [en] at hf
        exact ⟨rfl, ⟨_, _, rfl⟩, hf⟩
      | some r =>
        obtain ⟨e, he⟩ := hn d r (List.mem_of_getElem? hd) hbd
        have en : nearD left here d = decide ((e : Int) < (dh : Int)) := by
          unfold nearD
          simp only [hbd, dOf_of he, dOf_of hh]
          exact decide_eq_decide.mpr (by omega)
        rw [en] at hf
        refine ⟨_, rfl, _, rfl, dl, _, rfl, dget_lk hdl he, _, rfl, _, rfl, dl, _, rfl, dget_lk hdl hh, _, _, rfl, rfl, _, rfl, ?_⟩
        refine ite_b (fun e => ?_) (fun e => ?_)
        · rw [e] at hf
          refine ⟨_, rfl, k _ ?_⟩
          rw [hf]
          exact ⟨ad, rfl, hda⟩
        · rw [e] at hf
          exact ⟨rfl, ⟨_, _, rfl⟩, hf⟩
    · rintro σ H' ⟨rfl, ⟨a, b, rfl⟩, hf⟩
      rw [List.length_map, hD.len, List.drop_length] at hf
      refine k _ ?_
      rw [hf]
      rfl
/-- what way answers -/
def WayV (H H' : Hp) (o : Option (List Nat)) (v : V) : Prop := match o with
  | none => v = .non
  | some l => ∃ p, v = .ref p ∧ H p = none ∧ H' p = some (nL l)
theorem plc_lt {s : Ss} (wf : Wf s) {x : Nat} (hx : x < s.nodes.length) : plc s x < 24 := by
  have := (linv s.nodes.length s.pipes wf.pi).le x hx
  have := wf.n24
  unfold plc
  omega
theorem drs_lt {s : Ss} (wf : Wf s) : ∀ d, d ∈ drs s → d.2.1 < 24 ∧ d.2.2 < 24 := fun d hd => by
  obtain ⟨v, hv, _, e⟩ := mem_doors s.valves 0 hd
  have wv := wf.va v hv
  rw [e]
  exact ⟨plc_lt wf wv.a, plc_lt wf wv.b⟩
def sp_least_way (t : Adr) : Sp := fun vs H Q _ => ∃ (l : Addr) (ts : List Addr) (s : Ss) (x y : Nat), vs = [.ref l, .int (plc s x), .int (plc s y)] ∧ H l = some (rL ts) ∧ Drs H ts (drs s) ∧ Wf s ∧ x < s.nodes.length ∧ y < s.nodes.length ∧
  ∀ H' v, Same H H' → WayV H H' (Vbdlad.way s x y) v → Q v H'
theorem g_least_way (T : Txt K mg t) : GFn P w K mg base 3 "least_way" ["doors", "start", "goal"] (sp_least_way t) := by
  refine T.f_least_way.ok sc_least_way bn_least_way ?len ?body
  case len =>
    intro vs H Q E h
    obtain ⟨l, ts, s, x, y, rfl, _⟩ := h
    rfl
  case body =>
    intro f cdv A outer s' H vs Q E hr h
    obtain ⟨l, ts, s, x, y, rfl, hl, hD, wf, hx, hy, k⟩ := h
    refine ⟨_, (pss_cons (ps_set (i := 3) sc_least_way.nd rfl (Or.inl rfl) (pe_fn (g_doors_left T) (hr.mono (by decide)) rfl (pac (pv 0) (pac (pv 2) pa_nil))))
      (pss_cons (ps_if (pt_cmp (pc_dnotin (hu_of hr) (pv 1) (pv 3))) (pss_one (ps_ret pe_non)) pss_nil)
      (pss_cons (ps_set (i := 4) sc_least_way.nd rfl (Or.inl rfl) (pe_lst pa_nil))
      (pss_cons (ps_set (i := 5) sc_least_way.nd rfl (Or.inl rfl) (pv 1))
      (pss_cons (ps_while PassesOwn.never (pt_cmpR op_ne (pv 5) (pv 2) (nomark _)) (pss_cons (ps_set (i := 6) sc_least_way.nd rfl (Or.inl rfl) (pe_fn (g_door_nearer T) (hr.mono (by decide)) rfl (pac (pv 0) (pac (pv 3) (pac (pv 5) pa_nil)))))
      (pss_cons (ps_expr (pe_lm PySem.F.slot_list_append PySem.F.type_list_append mt_append (pv 4) (pac (pe_ix ix_tup (pv 6) pe_int (fun _ _ => rfl)) pa_nil)))
      (pss_one (ps_set (i := 5) sc_least_way.nd rfl (Or.inl rfl) (pe_fn (g_beyond T) (hr.mono (by decide)) rfl (pac (pv 6) (pac (pv 5) pa_nil))))))))
      (pss_one (ps_ret (pv 4)))))))), ?_⟩
    refine ⟨_, rfl, _, rfl, ⟨l, ts, drs s, plc s y, rfl, hl, hD, plc_lt wf hy, drs_lt wf, fun H1 dl left s1 ndl hdl B => ?_⟩⟩
    have hway := way_some wf hx hy B
    refine ⟨_, rfl, _, rfl, dl, _, rfl, DGet.k (k := Sum.inl (plc s x : Int)) hdl, _, rfl, ?_⟩
    rw [val_lk]
    cases hlk : lk left (plc s x) with
    | none =>
      rw [hlk] at hway
      refine k H1 _ s1 ?_
      rw [hway]
      rfl
    | some d0 =>
      rw [hlk] at hway
      have hd24 := dist_lt wf hx ((lk_dist wf hy B hx).mp hlk)
      refine ⟨Nat.zero_le _, fun nl nnl => ?_⟩
      have s2 : Same H (upd H1 nl (.lst [])) := s1.trans (Same.new nnl)
      have nn0 : H nl = none := s1.free nnl
      have hdl2 : upd H1 nl (.lst []) dl = some (dL left) := Same.new nnl _ _ hdl
      have dn : dl ≠ nl := ne_of_none hdl nnl
      refine ⟨_, rfl, ?_⟩
      refine ⟨fun m σ H' => ∃ here zs acc dr, σ = [some (.ref l), some (.int (plc s x)), some (.int (plc s y)), some (.ref dl), some (.ref nl), some (.int (here : Nat)), dr] ∧ Same H H' ∧ H' dl = some (dL left) ∧ H' nl = some (nL acc) ∧ Stands s here zs ∧ lk left here = some m ∧ acc ++ Vbdlad.wayFrom s y m m zs = Vbdlad.wayFrom s y d0 d0 [x] ∧ acc.length + m = d0,
        ⟨d0, plc s x, [x], [], none, rfl, s2, hdl2, upd_same, ⟨by simp, fun z hz => by simp at hz; subst hz; exact ⟨hx, rfl⟩⟩, hlk, rfl, by simp⟩, ?_⟩
      rintro m σ H' ⟨here, zs, acc, dr, rfl, s3, h3, h4, hst, hm, hacc, hlen⟩
      refine ⟨_, rfl, _, rfl, rfl, _, rfl, ?_⟩
      rw [intEq]
      have hz := B.zero hm
      match m, hm, hacc, hlen, hz with
      | 0, hm, hacc, hlen, hz =>
        have e : here = plc s y := hz.mpr rfl
        refine ite_b (fun q => absurd q (by simp [e])) (fun _ => ?_)
        refine ⟨_, rfl, k H' _ s3 ?_⟩
        rw [hway]
        refine ⟨nl, rfl, nn0, ?_⟩
        have : acc = Vbdlad.wayFrom s y d0 d0 [x] := by
          rw [← hacc]
          show acc = acc ++ []
          simp
        rw [this] at h4
        exact h4
      | m + 1, hm, hacc, hlen, hz =>
        have e : ¬ here = plc s y := fun q => by
          have := hz.mp q
          omega
        refine ite_b (fun _ => ?_) (fun q => absurd q (by simp [e]))
        obtain ⟨dd, zs', q, hfind, hwf, hbe, hst', hlq⟩ := way_step wf hy B hst hm
        refine ⟨fun σ' H5 => ∃ dr, σ' = [some (.ref l), some (.int (plc s x)), some (.int (plc s y)), some (.ref dl), some (.ref nl), some (.int (q : Nat)), dr] ∧ Same H H5 ∧ H5 dl = some (dL left) ∧ H5 nl = some (nL (acc ++ [dd.1])), ?_, ?_⟩
        · rintro σ' H5 ⟨dr, rfl, s5, h5, h6⟩
          refine ⟨m, Nat.lt_succ_self m, q, zs', acc ++ [dd.1], dr, rfl, s5, h5, h6, hst', hlq, ?_, ?_⟩
          · rw [← hacc, hwf, List.append_assoc]
            rfl
          · rw [List.length_append]
            simp only [List.length_cons, List.length_nil]
            omega
        · refine ⟨_, rfl, _, rfl, _, rfl, ⟨l, dl, ts, drs s, left, here, m + 1, rfl, s3 _ _ hl, hD.drs s3, h3, hm, fun d r hd hb => ?_, fun v hv => ?_⟩⟩
          · obtain ⟨e, he, _⟩ := B.nbr hm ⟨d, hd, hb⟩
            exact ⟨e, he⟩
          · rw [hfind] at hv
            obtain ⟨ad, rfl, had⟩ := hv
            refine ⟨_, rfl, .inl ⟨rfl, _, SqL.of h4⟩, _, rfl, ⟨_, _, _, _, rfl, rfl, SqT.of had, rfl, nl, _, _, rfl, rfl, h4, szl (by rw [List.length_map]; omega), ?_⟩⟩
            have hadn : ad ≠ nl := ne_of had h4 nofun
            refine ⟨_, rfl, _, rfl, ⟨ad, dd, here, rfl, by rw [upd_ne hadn]; exact had, ?_⟩⟩
            rw [hbe]
            refine ⟨_, rfl, fun b o eb => ?_, by rw [upd_ne dn]; exact h3, ?_⟩
            · rw [upd_ne (ne_of_none eb nn0)]
              exact s3 b o eb
            · rw [upd_same]
              simp [nL]
theorem doors_snoc {Pl : List Nat} {v : Va} : ∀ (l : List Va) (k : Nat), doorsOf Pl k (l ++ [v]) = doorsOf Pl k l ++ (if Vbdlad.counts v = true then [(k + l.length, Pl.getD v.a 0, Pl.getD v.b 0)] else [])
  | [], k => by
    show doorsOf Pl k [v] = _
    unfold doorsOf
    split <;> rfl
  | a :: l, k => by
    have ih := doors_snoc (Pl := Pl) (v := v) l (k + 1)
    rw [List.cons_append]
    unfold doorsOf
    rw [ih]
    have e : k + 1 + l.length = k + (a :: l).length := by simp; omega
    rw [e]
    split <;> simp
theorem doors_len (Pl : List Nat) : ∀ (l : List Va) (k : Nat), (doorsOf Pl k l).length ≤ l.length
  | [], k => Nat.le_refl _
  | a :: l, k => by
    have ih := doors_len Pl l (k + 1)
    unfold doorsOf
    split
    · simp only [List.length_cons]; omega
    · simp only [List.length_cons]; omega
def sp_Net_way (t : Adr) : Sp := fun vs H Q _ => ∃ (R : Root) (s : Ss) (a b : Nat), vs = [.ref R.nt, .int a, .int b] ∧ Rep t R s H ∧ Wf s ∧ a < s.nodes.length ∧ b < s.nodes.length ∧ ∀ H' v, Same H H' → WayV H H' (Vbdlad.way s a b) v → Q v H'
theorem g_Net_way (T : Txt K mg t) : GMe P w K mg base 4 t.cN "way" ["self", "a", "b"] (sp_Net_way t) := by
  refine T.f_Net_way.ok sc_Net_way bn_Net_way ?len ?body
  case len =>
    intro vs H Q E h
    obtain ⟨R, s, a, b, rfl, _⟩ := h
    rfl
  case body =>
    intro f cdv A outer s' H vs Q E hr h
    obtain ⟨R, s, a, b, rfl, h, wf, ha, hb, k⟩ := h
    refine ⟨_, (pss_cons (ps_set (i := 3) sc_Net_way.nd rfl (Or.inl rfl) (pe_fn (g_least_joined T) (hr.mono (by decide)) rfl (pac (pe_blt call_ln rfl T.b_len PySem.boot_len (pac (pe_at (pv 0)) pa_nil)) (pac (pe_at (pv 0)) pa_nil))))
      (pss_cons (ps_set (i := 4) sc_Net_way.nd rfl (Or.inl rfl) (pe_lst pa_nil))
      (pss_cons (ps_for PassesOwn.never rfl (pi_enum rfl T.b_enumerate (pac (pe_at (pv 0)) pa_nil)) (pg_tup rfl (pgs_cons (pg_name (i := 5) sc_Net_way.nd rfl (Or.inl rfl)) (pgs_cons (pg_name (i := 6) sc_Net_way.nd rfl (Or.inl rfl)) pgs_nil))) (pss_one (ps_if (pt_val (pe_me0 (pv 6) T.c_Valve (g_Valve_counts_as_open T) (hr.mono (by decide)))) (pss_one (ps_expr (pe_lm PySem.F.slot_list_append PySem.F.type_list_append mt_append (pv 4) (pac (pe_tup (pac (pv 5) (pac (pe_ix ix_list (pv 3) (pe_at (pv 6)) (fun _ _ => rfl)) (pac (pe_ix ix_list (pv 3) (pe_at (pv 6)) (fun _ _ => rfl)) pa_nil)))) pa_nil)))) pss_nil)))
      (pss_one (ps_ret (pe_fn (g_least_way T) (hr.mono (by decide)) rfl (pac (pv 4) (pac (pe_ix ix_list (pv 3) (pv 1) (fun _ _ => rfl)) (pac (pe_ix ix_list (pv 3) (pv 2) (fun _ _ => rfl)) pa_nil))))))))), ?_⟩
    refine ⟨_, rfl, rd_flags T h ⟨_, s.nodes.length, rfl, LenIs.of h.lf (by simp), _, rfl, rd_pipes T h ⟨_, R.lp, R.tp, _, rfl, h.lp, h.tp, wf.pi, wf.n24, fun H1 pp s1 npp hpp => ?_⟩⟩⟩
    have hl := leastJ_len s.nodes.length s.pipes wf.pi
    generalize hPl : leastJ s.nodes.length s.pipes = Pl at hpp hl
    refine ⟨Nat.zero_le _, fun dl ndl => ?_⟩
    have s2 : Same H (upd H1 dl (.lst [])) := s1.trans (Same.new ndl)
    have nd0 : H dl = none := s1.free ndl
    have hpp2 : upd H1 dl (.lst []) pp = some (nL Pl) := Same.new ndl _ _ hpp
    have hpd : pp ≠ dl := ne_of_none hpp ndl
    have hR2 := h.same s2
    refine ⟨_, rfl, rd_valves T hR2 ⟨R.lv, _, rfl, SqL.of hR2.lv, ?_⟩⟩
    refine for_enum (K := K) (a := R.lv) (xs := R.vs.map V.ref) (fun i σ H' => ∃ x y ts, σ = [some (.ref R.nt), some (.int a), some (.int b), some (.ref pp), some (.ref dl), x, y] ∧ Same H H' ∧ H' pp = some (nL Pl) ∧ H' dl = some (rL ts) ∧ Drs H' ts (doorsOf Pl 0 (s.valves.take i)))
      ⟨_, _, [], rfl, s2, hpp2, upd_same, All2.nil⟩ (fun i σ H' ⟨_, _, _, _, s3, _⟩ => SqL.of (s3 _ _ h.lv)) ?_ ?_
    · rintro i z Tt σ H' hi nT ⟨x, y, ts, rfl, s3, h3, h4, hD⟩
      obtain ⟨av, hav, rfl⟩ := map_at hi
      obtain ⟨v, hv, hva⟩ := h.vs.at_ i av hav
      have s4 : Same H' (upd H' Tt (.tup [.int (i : Nat), .ref av])) := Same.new nT
      have hva4 : VaAt t (upd H' Tt (.tup [.int (i : Nat), .ref av])) av v := hva.same fun o e => s4 _ _ (s3 _ _ e)
      have wv := wf.va v (List.mem_of_getElem? hv)
      have hil := (List.getElem?_eq_some_iff.mp hv).1
      have htl : (s.valves.take i).length = i := by rw [List.length_take]; omega
      have hsn := doors_snoc (Pl := Pl) (v := v) (s.valves.take i) 0
      rw [← take_snoc hv, htl, Nat.zero_add] at hsn
      have htsl : ts.length ≤ 48 := by
        rw [hD.len]
        have := doors_len Pl (s.valves.take i) 0
        have := wf.vaL
        omega
      have h34 := s4 _ _ h3
      have h44 := s4 _ _ h4
      refine ⟨Tt, _, rfl, SqT.of upd_same, rfl, _, _, rfl, _, _, rfl, rfl, ?_⟩
      refine ⟨_, rfl, me_V hva4 ⟨_, _, rfl, hva4, _, rfl, ?_⟩⟩
      refine ite_b (fun e => ?_) (fun e => ?_)
      · rw [if_pos e] at hsn
        refine ⟨_, rfl, .inl ⟨rfl, _, SqL.of h44⟩, _, rfl, _, rfl, _, rfl, rd_V_a T hva4 ⟨_, _, _, _, rfl, rfl, SqL.of h34, at_of rfl (n_at (by rw [hl]; exact wv.a)), _, rfl, _, rfl, rd_V_b T hva4 ⟨_, _, _, _, rfl, rfl, SqL.of h34, at_of rfl (n_at (by rw [hl]; exact wv.b)), sz (by show 3 ≤ 1000000; decide), fun p5 np5 => ?_⟩⟩⟩
        have s5 := Same.new (o := .tup [.int (i : Nat), .int (Pl.getD v.a 0 : Nat), .int (Pl.getD v.b 0 : Nat)]) np5
        have h45 := s5 _ _ h44
        have h35 := s5 _ _ h34
        refine ⟨dl, _, _, rfl, rfl, h45, szl (by rw [List.length_map]; omega), ?_⟩
        have p5d : p5 ≠ dl := (ne_of_none h44 np5).symm
        refine ⟨_, _, ts ++ [p5], rfl, fun b o q => ?_, by rw [upd_ne hpd]; exact h35, ?_, ?_⟩
        · rw [upd_ne (ne_of_none q nd0)]
          exact s5 _ _ (s4 _ _ (s3 _ _ q))
        · rw [upd_same]
          simp [rL]
        · rw [hsn]
          have hD5 : Drs (upd (upd (upd H' Tt (.tup [.int (i : Nat), .ref av])) p5 (.tup [.int (i : Nat), .int (Pl.getD v.a 0 : Nat), .int (Pl.getD v.b 0 : Nat)])) dl (.lst (ts.map V.ref ++ [.ref p5]))) ts (doorsOf Pl 0 (s.valves.take i)) :=
            hD.imp fun c d _ q => by
              have q2 := s5 _ _ (s4 _ _ q)
              rw [upd_ne (ne_of q2 h45 nofun)]
              exact q2
          exact hD5.snoc (by rw [upd_ne p5d, upd_same]; rfl)
      · rw [if_neg (by simp [e]), List.append_nil] at hsn
        refine ⟨_, _, ts, rfl, s3.trans s4, h34, h44, ?_⟩
        rw [hsn]
        exact hD.drs s4
    · rintro σ H' ⟨x, y, ts, rfl, s3, h3, h4, hD⟩
      rw [List.length_map, h.vs.len, List.take_length] at hD
      have hdrs : drs s = doorsOf Pl 0 s.valves := by unfold drs; rw [hPl]
      have hpl : ∀ z, plc s z = Pl.getD z 0 := fun z => by unfold plc; rw [hPl]
      refine ⟨_, rfl, _, rfl, _, rfl, ⟨_, _, _, _, rfl, rfl, SqL.of h3, at_of rfl (n_at (by omega)), _, rfl, _, rfl, ⟨_, _, _, _, rfl, rfl, SqL.of h3, at_of rfl (n_at (by omega)), ?_⟩⟩⟩
      refine ⟨dl, ts, s, a, b, by rw [hpl, hpl]; rfl, h4, by rw [hdrs]; exact hD, wf, ha, hb, fun H6 v s6 hv => k H6 v (s3.trans s6) ?_⟩
      cases hw : Vbdlad.way s a b with
      | none =>
        rw [hw] at hv
        exact hv
      | some l =>
        rw [hw] at hv
        obtain ⟨p, e1, e2, e3⟩ := hv
        exact ⟨p, e1, s3.free e2, e3⟩
end
end Pn

set_option Elab.async false
set_option linter.all false
set_option maxRecDepth 100000
set_option maxHeartbeats 2000000
namespace Pn
open PySem PySem.Spec PyProof.Rows L2
section
variable {P : Program} {w : World} {K : PySem.W.Frag} {mg : Str → Option Value} {base : Heap} {t : Adr}
def sp_Plant_init (t : Adr) : Sp := fun vs H Q _ => ∃ (p dx : Addr), vs = [.ref p] ∧ H p = some (.ins t.cL dx []) ∧ ∀ H' R, R.pl = p → Rep t R Vbdlad.start H' → (∀ b, Foot R b → b = p ∨ H b = none) → But p H H' → Q .non H'
theorem g_Plant_init (T : Txt K mg t) : GMk P w K mg base 3 t.cL "Plant" ["self"] (sp_Plant_init t) := by
  refine T.f_Plant_init.ok sc_Plant_init bn_Plant_init ?len ?body
  case len =>
    intro vs H Q E h
    obtain ⟨p, dx, rfl, _⟩ := h
    rfl
  case body =>
    intro f cdv A outer s H vs Q E hr h
    obtain ⟨p, dx, rfl, hp, k⟩ := h
    refine ⟨_, (pss_cons (ps_fld (pv 0) (pe_mk0 (g_Net_init T) (hr.mono (by decide)) rfl) rfl)
      (pss_cons (ps_fld (pv 0) (pe_lst pa_nil) rfl)
      (pss_one (ps_fld (pv 0) pe_int rfl)))), ?_⟩
    intro x dn nx nd ne
    have s1 : Same H (upd (upd H dn (.own x)) x (.ins t.cN dn [])) := (Same.new nd).trans (Same.new (by rw [upd_ne (Ne.symm ne)]; exact nx))
    refine ⟨x, dn, rfl, upd_same, fun H1 lf lp lv lo N b1 => ⟨rfl, ?_⟩⟩
    have s2 : Same H H1 := Same.made nx nd b1
    refine ⟨_, rfl, st_of (s2 _ _ hp) T.c_Plant T.n_Plant_net (by decide) rfl fun H2 e2 b2 => ?_⟩
    have xp : x ≠ p := (ne_of_none hp nx).symm
    refine ⟨Nat.zero_le _, fun lu nu => ⟨_, rfl, st_of (Same.new nu _ _ e2) T.c_Plant T.n_Plant_pumps (by show 1 ≤ 20; decide) rfl fun H3 e3 b3 => ?_⟩⟩
    have up : lu ≠ p := (ne_of_none e2 nu).symm
    refine ⟨_, rfl, st_of e3 T.c_Plant T.n_Plant_clock (by show 2 ≤ 20; decide) rfl fun H4 e4 b4 => ?_⟩
    have all : ∀ b o, H1 b = some o → b ≠ p → H4 b = some o := fun b o e n => b4 _ _ (b3 _ _ (Same.new nu _ _ (b2 _ _ e n)) n) n
    have sorted_ : ∀ {b}, H1 b = some (.lst []) → b ≠ p := fun {b} e => ne_of e (s2 _ _ hp) nofun
    have nd' := N.nd
    have un : ∀ {b}, H1 b = some (.lst []) → b ≠ lu := fun {b} e => ne_of_none (b2 _ _ e (sorted_ e)) nu
    refine k H4 ⟨p, x, dx, dn, lf, lp, lv, lo, lu, [], [], [], []⟩ rfl ⟨e4, all _ _ N.at_ xp, all _ _ N.ef (sorted_ N.ef), all _ _ N.eq (sorted_ N.eq), Prs.nil, all _ _ N.ev (sorted_ N.ev), All2.nil, all _ _ N.eo (sorted_ N.eo), Prs.nil, b4 _ _ (b3 _ _ upd_same up) up, All2.nil, ?_, List.nodup_nil, List.nodup_nil⟩ ?_ ?_
    · have h1 := un N.ef
      have h2 := un N.eq
      have h3 := un N.ev
      have h4 := un N.eo
      simp only [List.nodup_cons, List.mem_cons, not_or, List.not_mem_nil, not_false_eq_true, and_true] at nd' ⊢
      exact ⟨⟨nd'.1.1, nd'.1.2.1, nd'.1.2.2, h1⟩, ⟨nd'.2.1.1, nd'.2.1.2, h2⟩, ⟨nd'.2.2.1, h3⟩, h4, trivial, List.nodup_nil⟩
    · intro b fb
      obtain ⟨r1, r2, r3, r4⟩ := N.fr
      rcases fb with rfl | rfl | rfl | rfl | rfl | e | m | m
      · exact .inl rfl
      · exact .inr (s1.free r1)
      · exact .inr (s1.free r2)
      · exact .inr (s1.free r3)
      · exact .inr (s1.free r4)
      · refine .inr ?_
        have e : b = lu := e
        rw [e]
        cases q : H lu with
        | none => rfl
        | some o => exact absurd (b2 _ _ (s2 _ _ q) up) (by rw [nu]; exact nofun)
      · cases m
      · cases m
    · exact fun b o e n => all b o (s2 _ _ e) n
def sp_Plant_has_pump (t : Adr) : Sp := fun vs H Q _ => ∃ (R : Root) (s : Ss) (a : Int), vs = [.ref R.pl, .int a] ∧ Rep t R s H ∧ Q (.bl (decide (0 ≤ a) && decide (a < (s.pumps.length : Int)))) H
theorem g_Plant_has_pump (T : Txt K mg t) : GMe P w K mg base 1 t.cL "has_pump" ["self", "p"] (sp_Plant_has_pump t) := by
  refine T.f_Plant_has_pump.ok sc_Plant_has_pump bn_Plant_has_pump ?len ?body
  case len =>
    intro vs H Q E h
    obtain ⟨R, s, a, rfl, _⟩ := h
    rfl
  case body =>
    intro f cdv A outer s' H vs Q E hr h
    obtain ⟨R, s, a, rfl, h, k⟩ := h
    refine ⟨_, (pss_one (ps_ret (pe_chain op_le op_lt pe_int (pv 1) (pe_blt call_ln rfl T.b_len PySem.boot_len (pac (pe_at (pv 0)) pa_nil))))), ?_⟩
    refine ⟨_, rfl, _, _, rfl, rfl, _, rfl, ?_⟩
    refine ite_b (fun e => ?_) (fun e => ?_)
    · rw [e, Bool.true_and] at k
      exact ⟨_, rfl, rd_pumps T h ⟨_, _, rfl, LenIs.of h.lu (by rw [List.length_map]; exact h.ps.len), _, _, rfl, rfl, k⟩⟩
    · rw [e, Bool.false_and] at k
      exact k
def sp_Plant_add_pump (t : Adr) : Sp := fun vs H Q _ => ∃ (R : Root) (s : Ss) (a b d k l e o : Nat) (sl : Addr), vs = [.ref R.pl, .int a, .int b, .ref sl] ∧ Rep t R s H ∧ H sl = some (iL [d, k, l, e, o]) ∧ s.pumps.length < 8 ∧
  ∀ H' x, H x = none → Rep t { R with ps := R.ps ++ [x] } { s with pumps := s.pumps ++ [⟨a, b, d, k, l, e, o, 0, 0, 0, 0, 0, 0, 0⟩] } H' → (∀ b o, H b = some o → b ≠ R.lu → H' b = some o) → Q .non H'
theorem g_Plant_add_pump (T : Txt K mg t) : GMe P w K mg base 3 t.cL "add_pump" ["self", "a", "b", "sizes"] (sp_Plant_add_pump t) := by
  refine T.f_Plant_add_pump.ok sc_Plant_add_pump bn_Plant_add_pump ?len ?body
  case len =>
    intro vs H Q E h
    obtain ⟨R, s, a, b, d, k, l, e, o, sl, rfl, _⟩ := h
    rfl
  case body =>
    intro f cdv A outer s' H vs Q E hr h
    obtain ⟨R, s, a, b, d, k, l, e, o, sl, rfl, h, hs, hn, q⟩ := h
    refine ⟨_, (pss_one (ps_expr (pe_lm PySem.F.slot_list_append PySem.F.type_list_append mt_append (pe_at (pv 0)) (pac (pe_mk (g_Pump_init T) (hr.mono (by decide)) rfl (pac (pv 1) (pac (pv 2) (pac (pe_ix ix_list (pv 3) pe_int (fun _ _ => rfl)) (pac (pe_ix ix_list (pv 3) pe_int (fun _ _ => rfl)) (pac (pe_ix ix_list (pv 3) pe_int (fun _ _ => rfl)) (pac (pe_ix ix_list (pv 3) pe_int (fun _ _ => rfl)) (pac (pe_ix ix_list (pv 3) pe_int (fun _ _ => rfl)) pa_nil)))))))) pa_nil)))), ?_⟩
    refine ⟨_, rfl, rd_pumps T h ⟨.inl ⟨rfl, _, SqL.of h.lu⟩, _, rfl, _, rfl, _, rfl, ⟨_, _, _, _, rfl, rfl, SqL.of hs, rfl, _, rfl, ⟨_, _, _, _, rfl, rfl, SqL.of hs, rfl, _, rfl, ⟨_, _, _, _, rfl, rfl, SqL.of hs, rfl, _, rfl, ⟨_, _, _, _, rfl, rfl, SqL.of hs, rfl, _, rfl, ⟨_, _, _, _, rfl, rfl, SqL.of hs, rfl, ?_⟩⟩⟩⟩⟩⟩⟩
    intro x dx nx nd ne
    refine ⟨x, dx, a, b, d, k, l, e, o, rfl, upd_same, fun H1 h1 b1 => ⟨rfl, ?_⟩⟩
    have s1 : Same H H1 := Same.made nx nd b1
    have hR := h.same s1
    refine ⟨R.lu, _, _, rfl, rfl, hR.lu, szl (by rw [List.length_map, h.ps.len]; omega), ?_⟩
    have hx : x ∉ R.ps := fun m => by
      obtain ⟨_, _, e⟩ := h.ps.mem m
      rw [nx] at e
      cases e
    have h2 := hR.addPump h1 hx
    refine q _ x nx ?_ fun b o e n => ?_
    · have e : rL (R.ps ++ [x]) = .lst (R.ps.map V.ref ++ [.ref x]) := by simp [rL]
      rw [e] at h2
      exact h2
    · rw [upd_ne n]
      exact s1 _ _ e
theorem int0' {z : Int} : decide (V.int z = V.int 0) = decide (z = 0) := by
  refine decide_eq_decide.mpr ⟨fun q => ?_, fun q => by rw [q]⟩
  injection q
def sp_Plant_faults (t : Adr) : Sp := fun vs H Q _ => ∃ (R : Root) (s : Ss), vs = [.ref R.pl] ∧ Rep t R s H ∧ s.pumps.length ≤ 8 ∧ ∀ H', Same H H' → Q (.int (Vbdlad.faults s)) H'
theorem g_Plant_faults (T : Txt K mg t) : GMe P w K mg base 1 t.cL "faults" ["self"] (sp_Plant_faults t) := by
  refine T.f_Plant_faults.ok sc_Plant_faults bn_Plant_faults ?len ?body
  case len =>
    intro vs H Q E h
    obtain ⟨R, s, rfl, _⟩ := h
    rfl
  case body =>
    intro f cdv A outer s' H vs Q E hr h
    obtain ⟨R, s, rfl, h, hn, k⟩ := h
    refine ⟨_, (pss_one (ps_ret (pe_blt call_ln rfl T.b_len PySem.boot_len (pac (pe_lc rfl sc_Plant_faults.nd (pi_list (pe_at (pv 0))) (blkOk_by (N := ["self", "pump"]) (sc := defScope s_Plant_faults) (own := [("pump", 1)]) (by decide +kernel)) (fun _ _ _ _ _ => (pg_name (i := 1) sc_Plant_faults.nd rfl (Or.inl rfl))) (fun _ _ _ _ _ => (pts_one (pt_cmpR op_ne (pe_atK K (pv 1)) pe_int (nomark _)))) (fun _ _ _ _ _ => (pv 1))) pa_nil)))), ?_⟩
    refine ⟨_, rfl, rd_pumps T h ⟨R.lu, rfl, ⟨_, SqL.of h.lu⟩, fun D nD => ?_⟩⟩
    refine lc_list (K := K) (a := R.lu) (xs := R.ps.map V.ref) (fun j H2 => Same H H2 ∧ ∃ us, H2 D = some (rL us) ∧ us.length = ((s.pumps.take j).filter fun p => p.fault != 0).length) ⟨Same.new nD, [], upd_same, rfl⟩ (fun j H2 _ ⟨s2, _⟩ => SqL.of (s2 _ _ h.lu)) ?_ ?_
    · rintro j y H2 hj ⟨s2, us, hD, hl⟩
      obtain ⟨a, ha, rfl⟩ := map_at hj
      obtain ⟨p, hp, hpa⟩ := h.ps.at_ j a ha
      have hpa2 : PuAt t H2 a p := hpa.same fun o e => s2 _ _ e
      have hlen : us.length ≤ 8 := by
        rw [hl]
        refine Nat.le_trans (List.length_filter_le _ _) ?_
        rw [List.length_take]
        omega
      refine ⟨rfl, ⟨_, rfl, rd_P_fault T hpa2 ⟨rfl, _, rfl, ?_⟩⟩⟩
      rw [int0]
      refine ite_b (fun e => ?_) (fun e => ?_)
      · refine ⟨_, rfl, _, hD, szl (by rw [List.length_map]; omega), fun b o e => ?_, us ++ [a], ?_, ?_⟩
        · rw [upd_ne (ne_of_none e nD)]
          exact s2 b o e
        · rw [upd_same]
          simp [rL]
        · rw [take_snoc hp, List.filter_append, List.filter_cons, if_pos (by simpa using e), List.length_append, List.length_append, hl]
          rfl
      · refine ⟨s2, us, hD, ?_⟩
        rw [take_snoc hp, List.filter_append, List.filter_cons, if_neg (by simpa using e), List.filter_nil, List.append_nil]
        exact hl
    · rintro H2 ⟨s2, us, hD, hl⟩
      rw [List.length_map, h.ps.len, List.take_length] at hl
      refine ⟨D, _, rfl, LenIs.of hD (by rw [List.length_map]; exact hl), k H2 s2⟩
theorem ixN_nat {n j : Nat} (h : j < n) : ixN n (j : Int) = some j := by
  unfold ixN
  rw [if_pos (by omega), if_pos (by omega)]
  simp
theorem i_at {l : List Int} {i : Nat} (h : i < l.length) : (l.map V.int)[i]? = some (.int (l.getD i 0)) := by simp [List.getD_eq_getElem?_getD, h]
def sp_Plant_ledger (t : Adr) : Sp := fun vs H Q _ => ∃ (R : Root) (s : Ss), vs = [.ref R.pl] ∧ Rep t R s H ∧ Wf s ∧ ∀ H' p, Same H H' → H p = none → H' p = some (iL ((Vbdlad.numbers s).map fun x => Vbdlad.net s x)) → Q (.ref p) H'
theorem g_Plant_ledger (T : Txt K mg t) : GMe P w K mg base 1 t.cL "ledger" ["self"] (sp_Plant_ledger t) := by
  refine T.f_Plant_ledger.ok sc_Plant_ledger bn_Plant_ledger ?len ?body
  case len =>
    intro vs H Q E h
    obtain ⟨R, s, rfl, _⟩ := h
    rfl
  case body =>
    intro f cdv A outer s' H vs Q E hr h
    obtain ⟨R, s, rfl, h, wf, k⟩ := h
    refine ⟨_, (pss_cons (ps_set (i := 1) sc_Plant_ledger.nd rfl (Or.inl rfl) (pe_op op_rep (pe_lst (pac pe_int pa_nil)) (pe_blt call_ln rfl T.b_len PySem.boot_len (pac (pe_at (pe_at (pv 0))) pa_nil))))
      (pss_cons (ps_for PassesOwn.never rfl (pi_list (pe_at (pv 0))) (pg_name (i := 2) sc_Plant_ledger.nd rfl (Or.inl rfl)) (pss_cons (ps_augS (pv 1) (pe_at (pv 2)) get_list (pe_op op_mul (pe_at (pv 2)) (pe_at (pv 2))) ip_sub set_list)
      (pss_one (ps_augS (pv 1) (pe_at (pv 2)) get_list (pe_op op_mul (pe_at (pv 2)) (pe_at (pv 2))) ip_add set_list))))
      (pss_one (ps_ret (pv 1))))), ?_⟩
    have n24 := wf.n24
    refine ⟨sz (by show 1 ≤ 1000000; decide), fun p0 np0 => ?_⟩
    have s0 : Same H (upd H p0 (.lst [.int 0])) := Same.new np0
    have hR0 := h.same s0
    refine ⟨_, rfl, rd_net T hR0 (rd_flags T hR0 ⟨_, s.nodes.length, rfl, LenIs.of hR0.lf (by simp), p0, _, _, rfl, rfl, upd_same, by omega, by omega, sz (by show 1 * _ ≤ 1000000; omega), fun q nq => ?_⟩)⟩
    have eL : (List.replicate (s.nodes.length : Int).toNat [V.int 0]).flatten = (List.replicate s.nodes.length (0 : Int)).map V.int := by
      rw [Int.toNat_natCast]
      simp
    rw [eL]
    have s1 : Same H (upd (upd H p0 (.lst [.int 0])) q (.lst ((List.replicate s.nodes.length (0 : Int)).map V.int))) := s0.trans (Same.new nq)
    have nq0 : H q = none := s0.free nq
    have hR1 := h.same s1
    refine ⟨_, rfl, rd_pumps T hR1 ⟨R.lu, rfl, ⟨_, SqL.of hR1.lu⟩, ?_⟩⟩
    refine for_list (K := K) (a := R.lu) (xs := R.ps.map V.ref) (fun i σ H' => ∃ v, σ = [some (.ref R.pl), some (.ref q), v] ∧ Same H H' ∧ H' q = some (iL ((s.pumps.take i).foldl ledStep (List.replicate s.nodes.length 0))))
      ⟨_, rfl, s1, upd_same⟩ (fun i σ H' _ ⟨_, _, s2, _⟩ => SqL.of (s2 _ _ h.lu)) ?_ ?_
    · rintro i y σ H' hi ⟨v, rfl, s2, hq⟩
      obtain ⟨a, ha, rfl⟩ := map_at hi
      obtain ⟨p, hp, hpa⟩ := h.ps.at_ i a ha
      have hpa2 : PuAt t H' a p := hpa.same fun o e => s2 _ _ e
      have wp := wf.pu p (List.mem_of_getElem? hp)
      have hlen : ((s.pumps.take i).foldl ledStep (List.replicate s.nodes.length 0)).length = s.nodes.length := (led_fold s.nodes.length 0 (s.pumps.take i) _ (by simp) fun p hp => ⟨(wf.pu p (List.mem_of_mem_take hp)).a, (wf.pu p (List.mem_of_mem_take hp)).b⟩).1
      have hstep : (s.pumps.take (i + 1)).foldl ledStep (List.replicate s.nodes.length 0) = ledStep ((s.pumps.take i).foldl ledStep (List.replicate s.nodes.length 0)) p := by
        rw [take_snoc hp, List.foldl_append]
        rfl
      rw [hstep]
      generalize (s.pumps.take i).foldl ledStep (List.replicate s.nodes.length 0) = L at hq hlen ⊢
      have hla : p.a < L.length := by rw [hlen]; exact wp.a
      have hst := wp.stroke
      have hmul : CMul p.pos (p.stroke : Int) := .inr ⟨by omega, by omega⟩
      refine ⟨_, rfl, _, rfl, rd_P_a T hpa2 ⟨q, _, p.a, _, rfl, rfl, hq, i_at hla, _, rfl, rd_P_position T hpa2 ⟨_, rfl, rd_P_stroke T hpa2 ⟨_, _, rfl, rfl, hmul, _, _, rfl, rfl, q, _, _, p.a, rfl, rfl, hq, ixN_nat (by rw [List.length_map]; exact hla), ?_⟩⟩⟩⟩
      rw [← List.map_set]
      generalize hM : L.set p.a (L.getD p.a 0 - p.pos * (p.stroke : Int)) = M
      have hMl : M.length = s.nodes.length := by rw [← hM, List.length_set]; exact hlen
      have s3 : Same H (upd H' q (.lst (M.map V.int))) := fun b o e => by
        rw [upd_ne (ne_of_none e nq0)]
        exact s2 b o e
      have hq3 : upd H' q (.lst (M.map V.int)) q = some (iL M) := upd_same
      have hpa3 : PuAt t (upd H' q (.lst (M.map V.int))) a p := hpa.same fun o e => s3 _ _ e
      refine ⟨_, rfl, _, rfl, rd_P_b T hpa3 ⟨q, _, p.b, _, rfl, rfl, hq3, i_at (by rw [hMl]; exact wp.b), _, rfl, rd_P_position T hpa3 ⟨_, rfl, rd_P_stroke T hpa3 ⟨_, _, rfl, rfl, hmul, _, _, rfl, rfl, q, _, _, p.b, rfl, rfl, hq3, ixN_nat (by rw [List.length_map, hMl]; exact wp.b), ?_⟩⟩⟩⟩
      refine ⟨_, rfl, fun b o e => ?_, ?_⟩
      · rw [upd_ne (ne_of_none e nq0)]
        exact s3 b o e
      · rw [upd_same]
        unfold ledStep
        rw [hM, ← List.map_set]
        rfl
    · rintro σ H' ⟨v, rfl, s2, hq⟩
      rw [List.length_map, h.ps.len, List.take_length, ledger_eq wf] at hq
      exact ⟨_, rfl, k H' q s2 nq0 hq⟩
end
end Pn

set_option Elab.async false
set_option linter.all false
set_option maxRecDepth 100000
set_option maxHeartbeats 2000000
namespace Pn
open PySem PySem.Spec PyProof.Rows L2
section
variable {P : Program} {w : World} {K : PySem.W.Frag} {mg : Str → Option Value} {base : Heap} {t : Adr}
/-- the first i are done -/
def mu {α : Type} (f : α → α) (i : Nat) (l : List α) : List α := (l.take i).map f ++ l.drop i
theorem mu_at {α : Type} {f : α → α} {l : List α} {i : Nat} {v : α} (h : l[i]? = some v) : (mu f i l)[i]? = some v := by
  have hi := (List.getElem?_eq_some_iff.mp h).1
  have hl : ((l.take i).map f).length = i := by simp; omega
  unfold mu
  rw [List.getElem?_append_right (by omega), hl, List.getElem?_drop, Nat.sub_self, Nat.add_zero]
  exact h
theorem mu_succ {α : Type} {f : α → α} {l : List α} {i : Nat} {v : α} (h : l[i]? = some v) : (mu f i l).set i (f v) = mu f (i + 1) l := by
  have hi := (List.getElem?_eq_some_iff.mp h).1
  have hl : ((l.take i).map f).length = i := by simp; omega
  have hd : l.drop i = v :: l.drop (i + 1) := by
    rw [List.drop_eq_getElem_cons hi, (List.getElem?_eq_some_iff.mp h).2]
  unfold mu
  rw [List.set_append_right _ _ (by omega), hl, Nat.sub_self, hd, List.set_cons_zero, take_snoc h, List.map_append, List.append_assoc]
  rfl
theorem mu_all {α : Type} {f : α → α} (l : List α) : mu f l.length l = l.map f := by
  unfold mu
  rw [List.take_length, List.drop_length, List.append_nil]
/-- what ticks may change -/
def TFoot (R : Root) (b : Addr) : Prop := b = R.pl ∨ b ∈ R.vs ∨ b ∈ R.ps
theorem TFoot.foot {R : Root} {b : Addr} (h : TFoot R b) : Foot R b := by
  rcases h with e | e | e
  · exact .inl e
  · exact .inr (.inr (.inr (.inr (.inr (.inr (.inl e))))))
  · exact .inr (.inr (.inr (.inr (.inr (.inr (.inr e))))))
def TKeep (R : Root) (H H' : Hp) : Prop := ∀ b o, H b = some o → ¬ TFoot R b → H' b = some o
theorem TKeep.trans {R : Root} {H H1 H2 : Hp} (a : TKeep R H H1) (b : TKeep R H1 H2) : TKeep R H H2 := fun c o e n => b c o (a c o e n) n
theorem TKeep.same {R : Root} {H H1 : Hp} (a : Same H H1) : TKeep R H H1 := fun c o e _ => a c o e
theorem Rep.noT {R : Root} {s : Ss} {H : Hp} (h : Rep t R s H) {b : Addr} {o : HO} (e : H b = some o) (n : ∀ C dx fs, (fs : List (Str × V)).length = 3 ∨ fs.length = 5 ∨ fs.length = 14 → o ≠ .ins C dx fs) : ¬ TFoot R b := by
  rintro (rfl | m | m)
  · rw [h.pl] at e
    exact n _ _ _ (.inl rfl) (Option.some.inj e).symm
  · obtain ⟨x, dx, q⟩ := h.vs.mem m
    rw [q] at e
    exact n _ _ _ (.inr (.inl rfl)) (Option.some.inj e).symm
  · obtain ⟨x, dx, q⟩ := h.ps.mem m
    rw [q] at e
    exact n _ _ _ (.inr (.inr rfl)) (Option.some.inj e).symm
theorem FlAt.kept {R : Root} {s : Ss} {H H' : Hp} {fl : Addr} {fe dr : List Bool} (h : Rep t R s H) (k : TKeep R H H') (f : FlAt t H fl fe dr) : FlAt t H' fl fe dr := by
  obtain ⟨dx, x, y, e, e1, e2⟩ := f
  refine ⟨dx, x, y, k _ _ e (h.noT e fun C dx fs hl q => ?_), k _ _ e1 (h.noT e1 fun _ _ _ _ => nofun), k _ _ e2 (h.noT e2 fun _ _ _ _ => nofun)⟩
  injection q with _ _ q
  rw [← q] at hl
  have : (ff x y).length = 2 := rfl
  omega
theorem chg_joints {s : Ss} (h : chg s.valves = false) (n : Nat) : Vbdlad.joints { s with tick := n, valves := s.valves.map Vbdlad.moveValve } = Vbdlad.joints s := by
  have := joints_same (s := s) (vs := s.valves.map Vbdlad.moveValve) (by simp) fun i u v hu hv => by
    rw [List.getElem?_map, hu] at hv
    cases hv
    refine ⟨(moveValve_ends u).1, (moveValve_ends u).2, ?_⟩
    unfold chg at h
    rw [List.any_eq_false] at h
    have := h u (List.mem_of_getElem? hu)
    simpa using (by simpa using this : Vbdlad.counts u = Vbdlad.counts (Vbdlad.moveValve u)).symm
  exact this
def sp_Plant_go_on (t : Adr) : Sp := fun vs H Q _ => ∃ (R : Root) (s : Ss) (n : Nat), vs = [.ref R.pl, .int n] ∧ Rep t R s H ∧ Wf s ∧ n ≤ 200 ∧ ∀ H', Rep t R (Vbdlad.ticks n s) H' → TKeep R H H' → Q .non H'
theorem g_Plant_go_on (T : Txt K mg t) : GMe P w K mg base 5 t.cL "go_on" ["self", "ticks"] (sp_Plant_go_on t) := by
  refine T.f_Plant_go_on.ok sc_Plant_go_on bn_Plant_go_on ?len ?body
  case len =>
    intro vs H Q E h
    obtain ⟨R, s, n, rfl, _⟩ := h
    rfl
  case body =>
    intro f cdv A outer s' H vs Q E hr h
    obtain ⟨R, s, n, rfl, h, wf, hn, k⟩ := h
    refine ⟨_, (pss_cons (ps_set (i := 2) sc_Plant_go_on.nd rfl (Or.inl rfl) (pe_me0 (pe_at (pv 0)) T.c_Net (g_Net_flow T) (hr.mono (by decide))))
      (pss_one (ps_for PassesOwn.never rfl (pi_range1 rfl T.b_range (pac (pv 1) pa_nil)) (pg_name (i := 3) sc_Plant_go_on.nd rfl (Or.inl rfl)) (pss_cons (ps_fldaug (pv 0) pe_int in_add)
      (pss_cons (ps_if (pt_val (pe_me0 (pe_at (pv 0)) T.c_Net (g_Net_move_valves T) (hr.mono (by decide)))) (pss_one (ps_set (i := 2) sc_Plant_go_on.nd rfl (Or.inl rfl) (pe_me0 (pe_at (pv 0)) T.c_Net (g_Net_flow T) (hr.mono (by decide))))) pss_nil)
      (pss_one (ps_for PassesOwn.never rfl (pi_list (pe_at (pv 0))) (pg_name (i := 4) sc_Plant_go_on.nd rfl (Or.inl rfl)) (pss_one (ps_expr (pe_me (pv 4) T.c_Pump (g_Pump_tick T) (hr.mono (by decide)) (pac (pv 2) pa_nil))))))))))), ?_⟩
    refine ⟨_, rfl, rd_net T h (me_N h ⟨R, s, rfl, h, wf, fun H1 fl s1 nfl hfl => ?_⟩)⟩
    refine ⟨_, rfl, (n : Int), rfl, by omega, by omega, ?_⟩
    refine for_range (n := (n : Int).toNat) (fun i σ H' => ∃ fl x y, σ = [some (.ref R.pl), some (.int n), some (.ref fl), x, y] ∧ Rep t R (Vbdlad.ticks i s) H' ∧ FlAt t H' fl (fedOf (Vbdlad.ticks i s)) (drainedOf (Vbdlad.ticks i s)) ∧ TKeep R H H')
      ⟨fl, _, _, rfl, h.same s1, hfl, TKeep.same s1⟩ ?_ ?_
    · rintro i σ H' hi ⟨fl, x, y, rfl, hR, hF, kp⟩
      have wi := ticks_wf i wf
      rw [ticks_succ]
      generalize Vbdlad.ticks i s = si at hR hF wi ⊢
      -- self.clock += 1
      refine ⟨_, rfl, R.pl, _, _, _, _, rfl, hR.pl, T.c_Plant, T.n_Plant_clock, rfl, _, _, rfl, rfl, R.df, _, hR.pl, (by show 3 < 1000; decide), ?_⟩
      have hR2 : Rep t R { si with tick := si.tick + 1 } (upd H' R.pl (.ins t.cL R.df (putF "clock" (.int ((si.tick : Int) + 1)) (lf R.nt R.lu si.tick)))) := hR.setTick (si.tick + 1)
      have kp2 : TKeep R H' (upd H' R.pl (.ins t.cL R.df (putF "clock" (.int ((si.tick : Int) + 1)) (lf R.nt R.lu si.tick)))) := fun b o e m => by
        rw [upd_ne fun q => m (.inl q)]
        exact e
      generalize upd H' R.pl (.ins t.cL R.df (putF "clock" (.int ((si.tick : Int) + 1)) (lf R.nt R.lu si.tick))) = H2 at hR2 kp2 ⊢
      -- the valves
      refine ⟨_, rfl, rd_net T hR2 (me_N hR2 ⟨R, _, rfl, hR2, fun H3 hR3 kp3 => ⟨_, rfl, ?_⟩⟩)⟩
      have kp3' : TKeep R H2 H3 := fun b o e m => kp3 b o e fun q => m (.inr (.inl q))
      have hF3 : FlAt t H3 fl (fedOf si) (drainedOf si) := FlAt.kept hR2 kp3' (FlAt.kept hR kp2 hF)
      have w3 : Wf { si with tick := si.tick + 1, valves := si.valves.map Vbdlad.moveValve } := (wi.withTick (si.tick + 1)).withValves (fun v hv => by
        obtain ⟨u, hu, rfl⟩ := List.mem_map.mp hv
        exact moveValve_wf (wi.va u hu)) (by simpa using wi.vaL)
      have kpall : TKeep R H H3 := (kp.trans kp2).trans kp3'
      have fin : ∀ (H4 : Hp) (fl4 : Addr), Rep t R { si with tick := si.tick + 1, valves := si.valves.map Vbdlad.moveValve } H4 → FlAt t H4 fl4 (fedOf { si with tick := si.tick + 1, valves := si.valves.map Vbdlad.moveValve }) (drainedOf { si with tick := si.tick + 1, valves := si.valves.map Vbdlad.moveValve }) → TKeep R H H4 → ∀ (x y : Option V),
          tFor (iList K (tAt K (tVar 0) "pumps")) (gName 4) (tDrop (tMeth t.cP "tick" (sp_Pump_tick t) [] E0 (tVar 4) (tCons (tVar 2) tNil)))
            { nx := fun σ H' => ∃ fl x y, σ = [some (.ref R.pl), some (.int n), some (.ref fl), x, y] ∧ Rep t R (Vbdlad.oneTick si) H' ∧ FlAt t H' fl (fedOf (Vbdlad.oneTick si)) (drainedOf (Vbdlad.oneTick si)) ∧ TKeep R H H', rt := Q, ct := fun σ H' => ∃ fl x y, σ = [some (.ref R.pl), some (.int n), some (.ref fl), x, y] ∧ Rep t R (Vbdlad.oneTick si) H' ∧ FlAt t H' fl (fedOf (Vbdlad.oneTick si)) (drainedOf (Vbdlad.oneTick si)) ∧ TKeep R H H', bk := fun _ H' => Q .non H' } [some (.ref R.pl), some (.int n), some (.ref fl4), x, y] H4 := by
        intro H4 fl4 hR4 hF4 kp4 x y
        generalize hs1 : ({ si with tick := si.tick + 1, valves := si.valves.map Vbdlad.moveValve } : Ss) = s1 at hR4 hF4 w3
        have eone : Vbdlad.oneTick si = { s1 with pumps := s1.pumps.map (pumpTickF (fedOf s1) (drainedOf s1)) } := by
          have e0 : Vbdlad.oneTick si = { s1 with pumps := s1.pumps.map fun p => Vbdlad.pumpTick s1 (Vbdlad.joints s1) p } := by rw [← hs1]; rfl
          rw [e0]
          have e1 : (s1.pumps.map fun p => Vbdlad.pumpTick s1 (Vbdlad.joints s1) p) = s1.pumps.map (pumpTickF (fedOf s1) (drainedOf s1)) := List.map_congr_left fun p hp => pumpTick_eq w3 (w3.pu p hp)
          rw [e1]
        have lfe : (fedOf s1).length = s1.nodes.length := by unfold fedOf; rw [reachedL_len]; exact leastJ_len _ _ w3.joints
        have ldr : (drainedOf s1).length = s1.nodes.length := by unfold drainedOf; rw [reachedL_len]; exact leastJ_len _ _ w3.joints
        refine ⟨_, rfl, rd_pumps T hR4 ⟨R.lu, rfl, ⟨_, SqL.of hR4.lu⟩, ?_⟩⟩
        refine for_list (K := K) (a := R.lu) (xs := R.ps.map V.ref) (fun j σ H' => ∃ y, σ = [some (.ref R.pl), some (.int n), some (.ref fl4), x, y] ∧ Rep t R { s1 with pumps := mu (pumpTickF (fedOf s1) (drainedOf s1)) j s1.pumps } H' ∧ FlAt t H' fl4 (fedOf s1) (drainedOf s1) ∧ TKeep R H H')
          ⟨_, rfl, hR4, hF4, kp4⟩ (fun j σ H' _ ⟨_, _, hR5, _⟩ => SqL.of hR5.lu) ?_ ?_
        · rintro j z σ H5 hj ⟨y, rfl, hR5, hF5, kp5⟩
          obtain ⟨a, ha, rfl⟩ := map_at hj
          obtain ⟨p, hp, hpa⟩ := hR5.ps.at_ j a ha
          have hjl : j < s1.pumps.length := by rw [← hR4.ps.len]; exact (List.getElem?_eq_some_iff.mp ha).1
          obtain ⟨p', hp'⟩ : ∃ p', s1.pumps[j]? = some p' := ⟨_, List.getElem?_eq_getElem hjl⟩
          have hp2 : (mu (pumpTickF (fedOf s1) (drainedOf s1)) j s1.pumps)[j]? = some p := hp
          rw [mu_at hp'] at hp2
          cases hp2
          have wp := w3.pu p (List.mem_of_getElem? hp')
          refine ⟨_, rfl, me_P hpa ⟨_, rfl, ⟨a, fl4, p, _, _, rfl, hpa, hF5, ⟨by rw [lfe]; exact wp.a, by rw [lfe]; exact wp.b, by rw [ldr]; exact wp.a, by rw [ldr]; exact wp.b⟩, fun H6 h6 b6 => ?_⟩⟩⟩
          have hm : a ∈ R.ps := List.mem_of_getElem? ha
          have kp6 : TKeep R H5 H6 := fun b o e m => b6 b o e fun q => m (.inr (.inr (by rw [q]; exact hm)))
          have hR6 := hR5.setPump ha h6 b6
          rw [show ({ s1 with pumps := mu (pumpTickF (fedOf s1) (drainedOf s1)) j s1.pumps } : Ss).pumps = mu (pumpTickF (fedOf s1) (drainedOf s1)) j s1.pumps from rfl, mu_succ hp'] at hR6
          exact ⟨_, rfl, hR6, FlAt.kept hR5 kp6 hF5, kp5.trans kp6⟩
        · rintro σ H5 ⟨y, rfl, hR5, hF5, kp5⟩
          rw [List.length_map, hR4.ps.len, mu_all] at hR5
          exact ⟨fl4, _, _, rfl, by rw [eone]; exact hR5, by rw [eone]; exact hF5, kp5⟩
      refine ite_b (fun e => ?_) (fun e => ?_)
      · refine ⟨_, rfl, rd_net T hR3 (me_N hR3 ⟨R, _, rfl, hR3, w3, fun H4 fl4 s4 n4 hf4 => ?_⟩)⟩
        exact fin H4 fl4 (hR3.same s4) hf4 (kpall.trans (TKeep.same s4)) _ _
      · have ej := chg_joints (s := si) e (si.tick + 1)
        have ef : fedOf { si with tick := si.tick + 1, valves := si.valves.map Vbdlad.moveValve } = fedOf si := by unfold fedOf; rw [ej]
        have ed : drainedOf { si with tick := si.tick + 1, valves := si.valves.map Vbdlad.moveValve } = drainedOf si := by unfold drainedOf; rw [ej]
        exact fin H3 fl hR3 (by rw [ef, ed]; exact hF3) kpall _ _
    · rintro σ H' ⟨fl, x, y, rfl, hR, hF, kp⟩
      rw [Int.toNat_natCast] at hR
      exact k H' hR kp
end
end Pn

set_option Elab.async false
set_option linter.all false
set_option maxRecDepth 100000
set_option maxHeartbeats 2000000
namespace Pn
open PySem PySem.Spec PyProof.Rows L2
section
variable {P : Program} {w : World} {K : PySem.W.Frag} {mg : Str → Option Value} {base : Heap} {t : Adr}
structure Go (R : Root) (H : Hp) (R' : Root) (H' : Hp) : Prop where
  pl : R'.pl = R.pl
  keep : ∀ b o, H b = some o → ¬ Foot R b → H' b = some o
  new : ∀ b, Foot R' b → Foot R b ∨ H b = none
  sub : ∀ b, Foot R b → Foot R' b
theorem Go.same {R : Root} {H H' : Hp} (s : Same H H') : Go R H R H' := ⟨rfl, fun b o e _ => s b o e, fun _ h => .inl h, fun _ h => h⟩
theorem Go.then {R R' : Root} {H H1 H2 : Hp} (g : Go R H R' H1) (s : Same H1 H2) : Go R H R' H2 := ⟨g.pl, fun b o e n => s _ _ (g.keep b o e n), g.new, g.sub⟩
theorem Go.free {R R' : Root} {s' : Ss} {H H1 : Hp} (g : Go R H R' H1) (h : Rep t R' s' H1) {p : Addr} (n : H1 p = none) : H p = none := by
  cases q : H p with
  | none => rfl
  | some o =>
    exfalso
    by_cases fp : Foot R p
    · obtain ⟨u, hu⟩ := h.there (g.sub p fp)
      rw [n] at hu
      cases hu
    · rw [g.keep p o q fp] at n
      cases n
/-- what each call promises -/
def spC (c : Int) (ar : Nat) (t : Adr) : Sp := fun vs H Q _ => ∃ (R : Root) (s : Ss) (g : Addr) (ns : List Int), vs = [.ref R.pl, .ref g] ∧ Rep t R s H ∧ Wf s ∧ H g = some (iL ns) ∧ ns.length = ar ∧
  ∀ H' R' p, Rep t R' (Vbdlad.stepRaw s (c :: ns)).1 H' → Go R H R' H' → H p = none → H' p = some (iL (Vbdlad.stepRaw s (c :: ns)).2) → Q (.ref p) H'
theorem spC_len {c : Int} {ar : Nat} {t : Adr} : ∀ vs H Q E, spC c ar t vs H Q E → vs.length = 2 := fun vs H Q E h => by
  obtain ⟨R, s, g, ns, rfl, _⟩ := h
  rfl
section
variable {Q : VK} {R R' : Root} {s s' : Ss} {H H0 : Hp} {p : Addr} {st : Ss × List Int} {z : Int} {zs : List Int}
/-- an answer of one number, nothing changed -/
theorem fin1 (k : ∀ H' R' p, Rep t R' st.1 H' → Go R H R' H' → H p = none → H' p = some (iL st.2) → Q (.ref p) H') (h : Rep t R s H) (e : st = (s, [z])) (sm : Same H H0) (np : H0 p = none) : Q (.ref p) (upd H0 p (.lst [.int z])) := by
  subst e
  exact k _ R p ((h.same sm).same (Same.new np)) (Go.same (sm.trans (Same.new np))) (sm.free np) upd_same
/-- an answer of one number behind a change -/
theorem fin2 (k : ∀ H' R' p, Rep t R' st.1 H' → Go R H R' H' → H p = none → H' p = some (iL st.2) → Q (.ref p) H') (h : Rep t R' s' H0) (g : Go R H R' H0) (e : st = (s', [z])) (np : H0 p = none) : Q (.ref p) (upd H0 p (.lst [.int z])) := by
  subst e
  exact k _ R' p (h.same (Same.new np)) (g.then (Same.new np)) (g.free h np) upd_same
/-- a list that's new -/
theorem finL (k : ∀ H' R' p, Rep t R' st.1 H' → Go R H R' H' → H p = none → H' p = some (iL st.2) → Q (.ref p) H') (h : Rep t R s H) (e : st = (s, zs)) (sm : Same H H0) (np : H p = none) (hp : H0 p = some (iL zs)) : Q (.ref p) H0 := by
  subst e
  exact k _ R p (h.same sm) (Go.same sm) np hp
end
theorem l1 {ns : List Int} (h : ns.length = 1) : ∃ a, ns = [a] := by match ns, h with | [a], _ => exact ⟨a, rfl⟩
theorem l2 {ns : List Int} (h : ns.length = 2) : ∃ a b, ns = [a, b] := by match ns, h with | [a, b], _ => exact ⟨a, b, rfl⟩
theorem l3 {ns : List Int} (h : ns.length = 3) : ∃ a b c, ns = [a, b, c] := by match ns, h with | [a, b, c], _ => exact ⟨a, b, c, rfl⟩
theorem l0 {ns : List Int} (h : ns.length = 0) : ns = [] := List.length_eq_zero_iff.mp h
theorem one : (1 : Nat) ≤ sizeLine := by decide
def sp_has_both (t : Adr) : Sp := fun vs H Q _ => ∃ (R : Root) (s : Ss) (a b : Int), vs = [.ref R.pl, .int a, .int b] ∧ Rep t R s H ∧ Q (.bl (Vbdlad.isNode s a && Vbdlad.isNode s b)) H
theorem g_has_both (T : Txt K mg t) : GFn P w K mg base 2 "has_both" ["plant", "a", "b"] (sp_has_both t) := by
  refine T.f_has_both.ok sc_has_both bn_has_both ?len ?body
  case len =>
    intro vs H Q E h
    obtain ⟨R, s, a, b, rfl, _⟩ := h
    rfl
  case body =>
    intro f cdv A outer s' H vs Q E hr h
    obtain ⟨R, s, a, b, rfl, h, k⟩ := h
    refine ⟨_, (pss_one (ps_ret (pe_and (pe_me (pe_at (pv 0)) T.c_Net (g_Net_has_node T) (hr.mono (by decide)) (pac (pv 1) pa_nil)) (pe_one (pe_me (pe_at (pv 0)) T.c_Net (g_Net_has_node T) (hr.mono (by decide)) (pac (pv 2) pa_nil)))))), ?_⟩
    refine ⟨_, rfl, rd_net T h (me_N h ⟨_, rfl, ⟨R, s, a, rfl, h, _, rfl, ?_⟩⟩)⟩
    refine ite_b (fun e => ?_) (fun e => ?_)
    · rw [e, Bool.true_and] at k
      exact ⟨_, rfl, rd_net T h (me_N h ⟨_, rfl, ⟨R, s, b, rfl, h, k⟩⟩)⟩
    · rw [e, Bool.false_and] at k
      exact k
def lref (s : Ss) (a b th mo : Int) : Int := if (Vbdlad.isNode s a && Vbdlad.isNode s b) = true then (if a = b then -3 else if mo ≤ th then -2 else 0) else -1
theorem vint {a b : Int} : decide (V.int a = V.int b) = decide (a = b) := by
  refine decide_eq_decide.mpr ⟨fun q => ?_, fun q => by rw [q]⟩
  injection q
def sp_new_link_refusal (t : Adr) : Sp := fun vs H Q _ => ∃ (R : Root) (s : Ss) (a b th mo : Int), vs = [.ref R.pl, .int a, .int b, .int th, .int mo] ∧ Rep t R s H ∧ Q (.int (lref s a b th mo)) H
theorem g_new_link_refusal (T : Txt K mg t) : GFn P w K mg base 3 "new_link_refusal" ["plant", "a", "b", "there", "most"] (sp_new_link_refusal t) := by
  refine T.f_new_link_refusal.ok sc_new_link_refusal bn_new_link_refusal ?len ?body
  case len =>
    intro vs H Q E h
    obtain ⟨R, s, a, b, th, mo, rfl, _⟩ := h
    rfl
  case body =>
    intro f cdv A outer s' H vs Q E hr h
    obtain ⟨R, s, a, b, th, mo, rfl, h, k⟩ := h
    refine ⟨_, (pss_cons (ps_if (pt_not (pt_val (pe_fn (g_has_both T) (hr.mono (by decide)) rfl (pac (pv 0) (pac (pv 1) (pac (pv 2) pa_nil)))))) (pss_one (ps_ret (pe_gi rfl T.i_OUT_OF_RANGE))) pss_nil)
      (pss_cons (ps_if (pt_cmpR op_eq (pv 1) (pv 2) (nomark _)) (pss_one (ps_ret (pe_gi rfl T.i_SAME_NODE))) pss_nil)
      (pss_cons (ps_if (pt_cmpR op_ge (pv 3) (pv 4) (nomark _)) (pss_one (ps_ret (pe_gi rfl T.i_FULL))) pss_nil)
      (pss_one (ps_ret pe_int))))), ?_⟩
    unfold lref at k
    refine ⟨_, rfl, _, rfl, _, rfl, ⟨R, s, a, b, rfl, h, _, rfl, ?_⟩⟩
    refine ite_b (fun e => ?_) (fun e => ?_)
    · have e : (Vbdlad.isNode s a && Vbdlad.isNode s b) = false := by cases h1 : (Vbdlad.isNode s a && Vbdlad.isNode s b) with | false => rfl | true => rw [h1] at e; cases e
      rw [e] at k
      exact k
    · have e : (Vbdlad.isNode s a && Vbdlad.isNode s b) = true := by cases h1 : (Vbdlad.isNode s a && Vbdlad.isNode s b) with | true => rfl | false => rw [h1] at e; cases e
      rw [e, if_pos rfl] at k
      refine ⟨_, rfl, _, rfl, rfl, _, rfl, ?_⟩
      rw [vint]
      refine ite_b (fun e => ?_) (fun e => ?_)
      · rw [if_pos (of_decide_eq_true e)] at k
        exact k
      · rw [if_neg (of_decide_eq_false e)] at k
        refine ⟨_, rfl, _, rfl, _, _, rfl, rfl, _, rfl, ?_⟩
        refine ite_b (fun e => ?_) (fun e => ?_)
        · rw [if_pos (of_decide_eq_true e)] at k
          exact k
        · rw [if_neg (of_decide_eq_false e)] at k
          exact k
def sp_node (t : Adr) : Sp := spC 0 1 t
theorem sub_refl {R : Root} : ∀ b, Foot R b → Foot R b := fun _ h => h
theorem g_node (T : Txt K mg t) : GFn P w K mg base 1 "node" ["plant", "given"] (sp_node t) := by
  refine T.f_node.ok sc_node bn_node ?len ?body
  case len => exact spC_len
  case body =>
    intro f cdv A outer s' H vs Q E hr h
    obtain ⟨R, s, g, ns, rfl, h, wf, hg, hn, k⟩ := h
    obtain ⟨x, rfl⟩ := l1 hn
    refine ⟨_, (pss_cons (ps_set (i := 2) sc_node.nd rfl (Or.inl rfl) (pe_ix ix_list (pv 1) pe_int (fun _ _ => rfl)))
      (pss_cons (ps_set (i := 3) sc_node.nd rfl (Or.inl rfl) (pe_blt call_ln rfl T.b_len PySem.boot_len (pac (pe_at (pe_at (pv 0))) pa_nil)))
      (pss_cons (ps_if (pt_not (pt_chain op_le op_le pe_int (pv 2) pe_int)) (pss_one (ps_ret (pe_lst (pac (pe_gi rfl T.i_OUT_OF_RANGE) pa_nil)))) pss_nil)
      (pss_cons (ps_if (pt_cmpR op_ge (pv 3) (pe_gi rfl T.i_MOST_NODES) (nomark _)) (pss_one (ps_ret (pe_lst (pac (pe_gi rfl T.i_FULL) pa_nil)))) pss_nil)
      (pss_cons (ps_expr (pe_lm PySem.F.slot_list_append PySem.F.type_list_append mt_append (pe_at (pe_at (pv 0))) (pac (pv 2) pa_nil)))
      (pss_one (ps_ret (pe_lst (pac (pv 3) pa_nil))))))))), ?_⟩
    refine ⟨_, rfl, ⟨_, _, _, _, rfl, rfl, SqL.of hg, rfl, ?_⟩⟩
    refine ⟨_, rfl, rd_net T h (rd_flags T h ⟨_, s.nodes.length, rfl, LenIs.of h.lf (by simp), ?_⟩)⟩
    have bad : Vbdlad.within x 0 3 = false → ∀ p, H p = none → Q (.ref p) (upd H p (.lst [.int (-1)])) := fun e p np => fin1 k h (by rw [st_0, e]; rfl) (Same.refl H) np
    refine ⟨_, rfl, _, _, rfl, rfl, _, rfl, ?_⟩
    refine ite_b (fun e1 => ?_) (fun e1 => ?_)
    · refine ⟨_, _, rfl, rfl, _, rfl, ?_⟩
      refine ite_b (fun e2 => ?_) (fun e2 => ?_)
      · exact ⟨one, bad (by unfold Vbdlad.within; rw [e1, Bool.true_and]; simpa using e2)⟩
      · have e2 : decide (x ≤ 3) = true := by simpa using e2
        have ew : Vbdlad.within x 0 3 = true := by unfold Vbdlad.within; rw [e1, e2]; rfl
        refine ⟨_, rfl, _, _, rfl, rfl, _, rfl, ?_⟩
        refine ite_b (fun e3 => ?_) (fun e3 => ?_)
        · have e3 := of_decide_eq_true e3
          exact ⟨one, fun p np => fin1 k h (by rw [st_0, ew, if_neg (by simp), if_pos (by unfold Vbdlad.NODES; omega)]) (Same.refl H) np⟩
        · have e3 := of_decide_eq_false e3
          have hx0 := of_decide_eq_true e1
          refine ⟨_, rfl, rd_net T h (rd_flags T h ⟨.inl ⟨rfl, _, SqL.of h.lf⟩, _, rfl, R.lf, _, _, rfl, rfl, h.lf, szl (by rw [List.length_map]; omega), ?_⟩)⟩
          have eL : (.lst ((s.nodes.map fun (n : Nat) => V.int n) ++ [.int x]) : HO) = nL (s.nodes ++ [x.toNat]) := by
            unfold nL
            rw [List.map_append]
            simp only [List.map_cons, List.map_nil]
            rw [Int.toNat_of_nonneg hx0]
          rw [eL]
          have hR := h.addNode x.toNat
          refine ⟨_, rfl, one, fun p np => fin2 k hR ⟨rfl, fun b o e n => ?_, fun b h => .inl h, sub_refl⟩ ?_ np⟩
          · rw [upd_ne fun q => n (.inr (.inl q))]
            exact e
          · rw [st_0, ew, if_neg (by simp), if_neg (by unfold Vbdlad.NODES; omega)]
    · refine ⟨_, rfl, one, bad (by unfold Vbdlad.within; rw [e1]; rfl)⟩
end
end Pn

set_option Elab.async false
set_option linter.all false
set_option maxRecDepth 100000
set_option maxHeartbeats 2000000
namespace Pn
open PySem PySem.Spec PyProof.Rows L2
section
variable {P : Program} {w : World} {K : PySem.W.Frag} {mg : Str → Option Value} {base : Heap} {t : Adr}
theorem isNode_nat {s : Ss} {a : Int} (h : Vbdlad.isNode s a = true) : ∃ n : Nat, a = (n : Int) ∧ n < s.nodes.length := by
  have := isNode_iff.mp h
  exact ⟨a.toNat, by omega, by omega⟩
theorem lref_eq {s : Ss} {a b : Int} {n M : Nat} {X : Ss × List Int} : (if (!Vbdlad.isNode s a || !Vbdlad.isNode s b) = true then (s, [-1]) else if a = b then (s, [-3]) else if M ≤ n then (s, [-2]) else X) = if lref s a b n M = 0 then X else (s, [lref s a b n M]) := by
  unfold lref
  cases Vbdlad.isNode s a with
  | false => rfl
  | true =>
    cases Vbdlad.isNode s b with
    | false => rfl
    | true =>
      simp only [Bool.not_true, Bool.or_self, Bool.false_eq_true, if_false, Bool.and_self, if_true]
      by_cases h : a = b
      · rw [if_pos h, if_pos h]
        rfl
      · rw [if_neg h, if_neg h]
        by_cases h2 : M ≤ n
        · have h3 : (M : Int) ≤ (n : Int) := by omega
          simp only [if_pos h2, if_pos h3]
          rfl
        · have h3 : ¬ (M : Int) ≤ (n : Int) := by omega
          simp only [if_neg h2, if_neg h3, if_true]
theorem lref_zero {s : Ss} {a b : Int} {n M : Nat} (h : lref s a b n M = 0) : Vbdlad.isNode s a = true ∧ Vbdlad.isNode s b = true ∧ n < M := by
  unfold lref at h
  split at h
  · rename_i h1
    rw [Bool.and_eq_true] at h1
    split at h
    · cases h
    · split at h
      · cases h
      · exact ⟨h1.1, h1.2, by omega⟩
  · cases h
theorem two : (2 : Nat) ≤ sizeLine := by decide
theorem pos_len {us : List Addr} {js : Js} {H : Hp} (h : Prs H us js) : decide ((0 : Int) < ((us.length : Nat) : Int)) = decide (js ≠ []) := by
  refine decide_eq_decide.mpr ?_
  rw [h.len]
  cases js with
  | nil => simp
  | cons a l => simp
def sp_pipe (t : Adr) : Sp := spC 1 2 t
theorem g_pipe (T : Txt K mg t) : GFn P w K mg base 4 "pipe" ["plant", "given"] (sp_pipe t) := by
  refine T.f_pipe.ok sc_pipe bn_pipe ?len ?body
  case len => exact spC_len
  case body =>
    intro f cdv A outer s' H vs Q E hr h
    obtain ⟨R, s, g, ns, rfl, h, wf, hg, hn, k⟩ := h
    obtain ⟨a, b, rfl⟩ := l2 hn
    refine ⟨_, (pss_cons (ps_set (i := 2) sc_pipe.nd rfl (Or.inl rfl) (pe_ix ix_list (pv 1) pe_int (fun _ _ => rfl)))
      (pss_cons (ps_set (i := 3) sc_pipe.nd rfl (Or.inl rfl) (pe_ix ix_list (pv 1) pe_int (fun _ _ => rfl)))
      (pss_cons (ps_set (i := 4) sc_pipe.nd rfl (Or.inl rfl) (pe_blt call_ln rfl T.b_len PySem.boot_len (pac (pe_at (pe_at (pv 0))) pa_nil)))
      (pss_cons (ps_set (i := 5) sc_pipe.nd rfl (Or.inl rfl) (pe_fn (g_new_link_refusal T) (hr.mono (by decide)) rfl (pac (pv 0) (pac (pv 2) (pac (pv 3) (pac (pv 4) (pac (pe_gi rfl T.i_MOST_PIPES) pa_nil)))))))
      (pss_cons (ps_if (pt_cmpR op_ne (pv 5) pe_int (nomark _)) (pss_one (ps_ret (pe_lst (pac (pv 5) pa_nil)))) pss_nil)
      (pss_cons (ps_if (pt_cmpR op_gt (pe_blt call_ln rfl T.b_len PySem.boot_len (pac (pe_me (pe_at (pv 0)) T.c_Net (g_Net_pairs_joined_by T) (hr.mono (by decide)) (pac (pv 2) (pac (pv 3) pa_nil))) pa_nil)) pe_int (nomark _)) (pss_one (ps_ret (pe_lst (pac (pe_gi rfl T.i_WOULD_JOIN) pa_nil)))) pss_nil)
      (pss_cons (ps_expr (pe_lm PySem.F.slot_list_append PySem.F.type_list_append mt_append (pe_at (pe_at (pv 0))) (pac (pe_tup (pac (pv 2) (pac (pv 3) pa_nil))) pa_nil)))
      (pss_one (ps_ret (pe_lst (pac (pv 4) pa_nil))))))))))), ?_⟩
    refine ⟨_, rfl, ⟨_, _, _, _, rfl, rfl, SqL.of hg, rfl, ?_⟩⟩
    refine ⟨_, rfl, ⟨_, _, _, _, rfl, rfl, SqL.of hg, rfl, ?_⟩⟩
    refine ⟨_, rfl, rd_net T h (rd_pipes T h ⟨_, s.pipes.length, rfl, LenIs.of h.lp (by rw [List.length_map]; exact h.tp.len), ?_⟩)⟩
    refine ⟨_, rfl, _, rfl, _, rfl, _, rfl, ⟨R, s, a, b, s.pipes.length, 48, rfl, h, ?_⟩⟩
    refine ⟨_, rfl, rfl, _, rfl, ?_⟩
    rw [vint]
    have hst := st_1 s a b
    rw [show Vbdlad.PIPES = 48 from rfl, lref_eq] at hst
    refine ite_b (fun e => ?_) (fun e => ?_)
    · have e : ¬ lref s a b s.pipes.length 48 = 0 := by simpa using e
      exact ⟨_, rfl, one, fun p np => fin1 k h (by rw [hst]; exact if_neg e) (Same.refl H) np⟩
    · have e : lref s a b s.pipes.length 48 = 0 := by simpa using e
      obtain ⟨e1, e2, e3⟩ := lref_zero (M := 48) e
      obtain ⟨na, rfl, ha⟩ := isNode_nat e1
      obtain ⟨nb, rfl, hb⟩ := isNode_nat e2
      rw [show ((48 : Nat) : Int) = 48 from rfl, if_pos e, Int.toNat_natCast, Int.toNat_natCast] at hst
      refine ⟨_, rfl, rd_net T h (me_N h ⟨_, rfl, _, rfl, ⟨R, s, na, nb, rfl, h, wf, ha, hb, fun H1 q us s1 nq hq hP => ⟨q, us.length, rfl, LenIs.of hq (by simp), _, _, rfl, rfl, _, rfl, ?_⟩⟩⟩)⟩
      rw [pos_len hP]
      refine ite_b (fun e => ?_) (fun e => ?_)
      · rw [if_pos (of_decide_eq_true e)] at hst
        exact ⟨one, fun p np => fin1 k h hst s1 np⟩
      · rw [if_neg (of_decide_eq_false e)] at hst
        have hR1 := h.same s1
        refine ⟨_, rfl, rd_net T hR1 (rd_pipes T hR1 ⟨.inl ⟨rfl, _, SqL.of hR1.lp⟩, _, rfl, _, rfl, two, fun x nx => ?_⟩)⟩
        have s2 : Same H1 (upd H1 x (.tup [.int na, .int nb])) := Same.new nx
        have hR2 := hR1.same s2
        refine ⟨R.lp, _, _, rfl, rfl, hR2.lp, szl (by rw [List.length_map, h.tp.len]; omega), ?_⟩
        have hR3 := hR2.addPipe (x := x) (q := (na, nb)) upd_same
        have eL : rL (R.tp ++ [x]) = .lst (R.tp.map V.ref ++ [.ref x]) := by simp [rL]
        rw [eL] at hR3
        refine ⟨_, rfl, one, fun p np => fin2 k hR3 ⟨rfl, fun c o e n => ?_, fun c hc => .inl hc, sub_refl⟩ hst np⟩
        rw [upd_ne fun z => n (.inr (.inr (.inl z)))]
        exact s2 _ _ (s1 _ _ e)
def sp_valve (t : Adr) : Sp := spC 2 3 t
theorem g_valve (T : Txt K mg t) : GFn P w K mg base 4 "valve" ["plant", "given"] (sp_valve t) := by
  refine T.f_valve.ok sc_valve bn_valve ?len ?body
  case len => exact spC_len
  case body =>
    intro f cdv A outer s' H vs Q E hr h
    obtain ⟨R, s, g, ns, rfl, h, wf, hg, hn, k⟩ := h
    obtain ⟨a, b, tr, rfl⟩ := l3 hn
    refine ⟨_, (pss_cons (ps_set (i := 2) sc_valve.nd rfl (Or.inl rfl) (pe_ix ix_list (pv 1) pe_int (fun _ _ => rfl)))
      (pss_cons (ps_set (i := 3) sc_valve.nd rfl (Or.inl rfl) (pe_ix ix_list (pv 1) pe_int (fun _ _ => rfl)))
      (pss_cons (ps_set (i := 4) sc_valve.nd rfl (Or.inl rfl) (pe_ix ix_list (pv 1) pe_int (fun _ _ => rfl)))
      (pss_cons (ps_set (i := 5) sc_valve.nd rfl (Or.inl rfl) (pe_blt call_ln rfl T.b_len PySem.boot_len (pac (pe_at (pe_at (pv 0))) pa_nil)))
      (pss_cons (ps_if (pt_not (pt_chain op_le op_le pe_int (pv 4) pe_int)) (pss_one (ps_ret (pe_lst (pac (pe_gi rfl T.i_OUT_OF_RANGE) pa_nil)))) pss_nil)
      (pss_cons (ps_set (i := 6) sc_valve.nd rfl (Or.inl rfl) (pe_fn (g_new_link_refusal T) (hr.mono (by decide)) rfl (pac (pv 0) (pac (pv 2) (pac (pv 3) (pac (pv 5) (pac (pe_gi rfl T.i_MOST_VALVES) pa_nil)))))))
      (pss_cons (ps_if (pt_cmpR op_ne (pv 6) pe_int (nomark _)) (pss_one (ps_ret (pe_lst (pac (pv 6) pa_nil)))) pss_nil)
      (pss_cons (ps_expr (pe_me (pe_at (pv 0)) T.c_Net (g_Net_add_valve T) (hr.mono (by decide)) (pac (pv 2) (pac (pv 3) (pac (pv 4) pa_nil)))))
      (pss_one (ps_ret (pe_lst (pac (pv 5) pa_nil)))))))))))), ?_⟩
    refine ⟨_, rfl, ⟨_, _, _, _, rfl, rfl, SqL.of hg, rfl, ?_⟩⟩
    refine ⟨_, rfl, ⟨_, _, _, _, rfl, rfl, SqL.of hg, rfl, ?_⟩⟩
    refine ⟨_, rfl, ⟨_, _, _, _, rfl, rfl, SqL.of hg, rfl, ?_⟩⟩
    refine ⟨_, rfl, rd_net T h (rd_valves T h ⟨_, s.valves.length, rfl, LenIs.of h.lv (by rw [List.length_map]; exact h.vs.len), ?_⟩)⟩
    have hst := st_2 s a b tr
    have bad : Vbdlad.within tr 0 60 = false → ∀ p, H p = none → Q (.ref p) (upd H p (.lst [.int (-1)])) := fun e p np => fin1 k h (by rw [hst, e]; simp) (Same.refl H) np
    refine ⟨_, rfl, _, _, rfl, rfl, _, rfl, ?_⟩
    refine ite_b (fun e1 => ?_) (fun e1 => ?_)
    · refine ⟨_, _, rfl, rfl, _, rfl, ?_⟩
      refine ite_b (fun e2 => ?_) (fun e2 => ?_)
      · exact ⟨one, bad (by unfold Vbdlad.within; rw [e1, Bool.true_and]; simpa using e2)⟩
      · have e2 : decide (tr ≤ 60) = true := by simpa using e2
        have ew : Vbdlad.within tr 0 60 = true := by unfold Vbdlad.within; rw [e1, e2]; rfl
        rw [ew, Bool.not_true, Bool.or_false, show Vbdlad.VALVES = 48 from rfl, lref_eq] at hst
        refine ⟨_, rfl, _, rfl, _, rfl, _, rfl, ⟨R, s, a, b, s.valves.length, 48, rfl, h, ?_⟩⟩
        refine ⟨_, rfl, rfl, _, rfl, ?_⟩
        rw [vint]
        refine ite_b (fun e => ?_) (fun e => ?_)
        · have e : ¬ lref s a b s.valves.length 48 = 0 := by simpa using e
          exact ⟨_, rfl, one, fun p np => fin1 k h (by rw [hst]; exact if_neg e) (Same.refl H) np⟩
        · have e : lref s a b s.valves.length 48 = 0 := by simpa using e
          obtain ⟨e3, e4, e5⟩ := lref_zero (M := 48) e
          obtain ⟨na, rfl, ha⟩ := isNode_nat e3
          obtain ⟨nb, rfl, hb⟩ := isNode_nat e4
          obtain ⟨nt, rfl⟩ : ∃ nt : Nat, tr = (nt : Int) := ⟨tr.toNat, by have := of_decide_eq_true e1; omega⟩
          rw [show ((48 : Nat) : Int) = 48 from rfl, if_pos e, Int.toNat_natCast, Int.toNat_natCast, Int.toNat_natCast] at hst
          refine ⟨_, rfl, rd_net T h (me_N h ⟨_, rfl, _, rfl, _, rfl, ⟨R, s, na, nb, nt, rfl, h, e5, fun H1 x nx hR1 kp => ?_⟩⟩)⟩
          refine ⟨_, rfl, one, fun p np => fin2 k hR1 ⟨rfl, fun c o e n => kp c o e fun z => n (.inr (.inr (.inr (.inl z)))), fun c hc => ?_, fun c hc => ?_⟩ hst np⟩
          · rcases hc with q | q | q | q | q | q | q | q
            · exact .inl (.inl q)
            · exact .inl (.inr (.inl q))
            · exact .inl (.inr (.inr (.inl q)))
            · exact .inl (.inr (.inr (.inr (.inl q))))
            · exact .inl (.inr (.inr (.inr (.inr (.inl q)))))
            · exact .inl (.inr (.inr (.inr (.inr (.inr (.inl q))))))
            · rcases List.mem_append.mp q with q | q
              · exact .inl (.inr (.inr (.inr (.inr (.inr (.inr (.inl q)))))))
              · rw [List.mem_singleton.mp q]
                exact .inr nx
            · exact .inl (.inr (.inr (.inr (.inr (.inr (.inr (.inr q)))))))
          · rcases hc with q | q | q | q | q | q | q | q
            · exact .inl q
            · exact .inr (.inl q)
            · exact .inr (.inr (.inl q))
            · exact .inr (.inr (.inr (.inl q)))
            · exact .inr (.inr (.inr (.inr (.inl q))))
            · exact .inr (.inr (.inr (.inr (.inr (.inl q)))))
            · exact .inr (.inr (.inr (.inr (.inr (.inr (.inl (List.mem_append_left _ q)))))))
            · exact .inr (.inr (.inr (.inr (.inr (.inr (.inr q))))))
    · refine ⟨_, rfl, one, bad (by unfold Vbdlad.within; rw [e1]; rfl)⟩
theorem any_same {js : Js} {a b : Nat} : js.any (fun p => Vbdlad.sameEnds p (a, b)) = decide ((a, b) ∈ js ∨ (b, a) ∈ js) := by
  rw [Bool.eq_iff_iff, List.any_eq_true, decide_eq_true_iff]
  constructor
  · rintro ⟨⟨x, y⟩, hm, e⟩
    unfold Vbdlad.sameEnds at e
    simp at e
    rcases e with ⟨rfl, rfl⟩ | ⟨rfl, rfl⟩
    · exact .inl hm
    · exact .inr hm
  · rintro (hm | hm)
    · exact ⟨_, hm, by simp [Vbdlad.sameEnds]⟩
    · exact ⟨_, hm, by simp [Vbdlad.sameEnds]⟩
theorem asfb_non {js : Js} {a b : Nat} {H : Hp} {v : V} (h : AsFb js a b H v) : decide (v = .non) = !decide ((a, b) ∈ js ∨ (b, a) ∈ js) := by
  unfold AsFb at h
  split at h
  · rename_i h1
    obtain ⟨q, rfl, _⟩ := h
    simp [h1]
  · rename_i h1
    split at h
    · rename_i h2
      obtain ⟨q, rfl, _⟩ := h
      simp [h2]
    · rename_i h2
      subst h
      simp [h1, h2]
def sp_forbid (t : Adr) : Sp := spC 3 2 t
theorem g_forbid (T : Txt K mg t) : GFn P w K mg base 5 "forbid" ["plant", "given"] (sp_forbid t) := by
  refine T.f_forbid.ok sc_forbid bn_forbid ?len ?body
  case len => exact spC_len
  case body =>
    intro f cdv A outer s' H vs Q E hr h
    obtain ⟨R, s, g, ns, rfl, h, wf, hg, hn, k⟩ := h
    obtain ⟨a, b, rfl⟩ := l2 hn
    refine ⟨_, (pss_cons (ps_set (i := 2) sc_forbid.nd rfl (Or.inl rfl) (pe_ix ix_list (pv 1) pe_int (fun _ _ => rfl)))
      (pss_cons (ps_set (i := 3) sc_forbid.nd rfl (Or.inl rfl) (pe_ix ix_list (pv 1) pe_int (fun _ _ => rfl)))
      (pss_cons (ps_if (pt_not (pt_val (pe_fn (g_has_both T) (hr.mono (by decide)) rfl (pac (pv 0) (pac (pv 2) (pac (pv 3) pa_nil)))))) (pss_one (ps_ret (pe_lst (pac (pe_gi rfl T.i_OUT_OF_RANGE) pa_nil)))) pss_nil)
      (pss_cons (ps_if (pt_cmpR op_eq (pv 2) (pv 3) (nomark _)) (pss_one (ps_ret (pe_lst (pac (pe_gi rfl T.i_SAME_NODE) pa_nil)))) pss_nil)
      (pss_cons (ps_if (pt_cmpR op_notN (pe_me (pe_at (pv 0)) T.c_Net (g_Net_forbidden_as T) (hr.mono (by decide)) (pac (pv 2) (pac (pv 3) pa_nil))) pe_non (nomark _)) (pss_one (ps_ret (pe_lst (pac pe_int pa_nil)))) pss_nil)
      (pss_cons (ps_if (pt_cmpR op_ge (pe_blt call_ln rfl T.b_len PySem.boot_len (pac (pe_at (pe_at (pv 0))) pa_nil)) (pe_gi rfl T.i_MOST_FORBIDDEN) (nomark _)) (pss_one (ps_ret (pe_lst (pac (pe_gi rfl T.i_FULL) pa_nil)))) pss_nil)
      (pss_cons (ps_if (pt_val (pe_me (pe_at (pv 0)) T.c_Net (g_Net_are_joined T) (hr.mono (by decide)) (pac (pv 2) (pac (pv 3) pa_nil)))) (pss_one (ps_ret (pe_lst (pac (pe_gi rfl T.i_ARE_JOINED) pa_nil)))) pss_nil)
      (pss_cons (ps_expr (pe_lm PySem.F.slot_list_append PySem.F.type_list_append mt_append (pe_at (pe_at (pv 0))) (pac (pe_tup (pac (pv 2) (pac (pv 3) pa_nil))) pa_nil)))
      (pss_one (ps_ret (pe_lst (pac pe_int pa_nil)))))))))))), ?_⟩
    refine ⟨_, rfl, ⟨_, _, _, _, rfl, rfl, SqL.of hg, rfl, ?_⟩⟩
    refine ⟨_, rfl, ⟨_, _, _, _, rfl, rfl, SqL.of hg, rfl, ?_⟩⟩
    have hst := st_3 s a b
    refine ⟨_, rfl, _, rfl, _, rfl, ⟨R, s, a, b, rfl, h, _, rfl, ?_⟩⟩
    rw [← Bool.not_and] at hst
    refine ite_b (fun e => ?_) (fun e => ?_)
    · rw [if_pos e] at hst
      exact ⟨one, fun p np => fin1 k h hst (Same.refl H) np⟩
    · rw [if_neg (by rw [e]; exact Bool.false_ne_true)] at hst
      have e' : (Vbdlad.isNode s a && Vbdlad.isNode s b) = true := by cases h1 : (Vbdlad.isNode s a && Vbdlad.isNode s b) with | true => rfl | false => rw [h1] at e; cases e
      rw [Bool.and_eq_true] at e'
      obtain ⟨na, rfl, ha⟩ := isNode_nat e'.1
      obtain ⟨nb, rfl, hb⟩ := isNode_nat e'.2
      rw [Int.toNat_natCast, Int.toNat_natCast, any_same] at hst
      refine ⟨_, rfl, _, rfl, rfl, _, rfl, ?_⟩
      rw [vint]
      refine ite_b (fun e => ?_) (fun e => ?_)
      · rw [if_pos (of_decide_eq_true e)] at hst
        exact ⟨one, fun p np => fin1 k h hst (Same.refl H) np⟩
      · rw [if_neg (of_decide_eq_false e)] at hst
        refine ⟨_, rfl, rd_net T h (me_N h ⟨_, rfl, _, rfl, ⟨R, s, na, nb, rfl, h, fun H1 v s1 hv => ⟨rfl, _, rfl, ?_⟩⟩⟩)⟩
        rw [asfb_non hv, Bool.not_not]
        have hR1 := h.same s1
        refine ite_b (fun e => ?_) (fun e => ?_)
        · rw [if_pos e] at hst
          exact ⟨one, fun p np => fin1 k h hst s1 np⟩
        · rw [if_neg (by rw [e]; exact Bool.false_ne_true)] at hst
          refine ⟨_, rfl, rd_net T hR1 (rd_forbidden T hR1 ⟨_, s.forbidden.length, rfl, LenIs.of hR1.lo (by rw [List.length_map]; exact h.fo.len), _, _, rfl, rfl, _, rfl, ?_⟩)⟩
          refine ite_b (fun e => ?_) (fun e => ?_)
          · have e := of_decide_eq_true e
            rw [if_pos (by show 24 ≤ _; omega)] at hst
            exact ⟨one, fun p np => fin1 k h hst s1 np⟩
          · have e := of_decide_eq_false e
            rw [if_neg (by show ¬ 24 ≤ _; omega)] at hst
            refine ⟨_, rfl, rd_net T hR1 (me_N hR1 ⟨_, rfl, _, rfl, ⟨R, s, na, nb, rfl, hR1, wf, ha, hb, fun H2 s2 => ⟨_, rfl, ?_⟩⟩⟩)⟩
            have hR2 := hR1.same s2
            refine ite_b (fun e => ?_) (fun e => ?_)
            · rw [if_pos e] at hst
              exact ⟨one, fun p np => fin1 k h hst (s1.trans s2) np⟩
            · rw [if_neg (by rw [e]; exact Bool.false_ne_true)] at hst
              refine ⟨_, rfl, rd_net T hR2 (rd_forbidden T hR2 ⟨.inl ⟨rfl, _, SqL.of hR2.lo⟩, _, rfl, _, rfl, two, fun x nx => ?_⟩)⟩
              have s3 : Same H2 (upd H2 x (.tup [.int na, .int nb])) := Same.new nx
              have hR3 := hR2.same s3
              refine ⟨R.lo, _, _, rfl, rfl, hR3.lo, szl (by rw [List.length_map, h.fo.len]; omega), ?_⟩
              have hR4 := hR3.addForb (x := x) (q := (na, nb)) upd_same
              have eL : rL (R.fo ++ [x]) = .lst (R.fo.map V.ref ++ [.ref x]) := by simp [rL]
              rw [eL] at hR4
              refine ⟨one, fun p np => fin2 k hR4 ⟨rfl, fun c o e n => ?_, fun c hc => .inl hc, sub_refl⟩ hst np⟩
              rw [upd_ne fun z => n (.inr (.inr (.inr (.inr (.inl z)))))]
              exact s3 _ _ (s2 _ _ (s1 _ _ e))
end
end Pn

set_option Elab.async false
set_option linter.all false
set_option maxRecDepth 100000
set_option maxHeartbeats 2000000
namespace Pn
open PySem PySem.Spec PyProof.Rows L2
section
variable {P : Program} {w : World} {K : PySem.W.Frag} {mg : Str → Option Value} {base : Heap} {t : Adr}
theorem same_as {q : Nat × Nat} {a b : Nat} (h : Vbdlad.sameEnds q (a, b) = true) (p : Nat × Nat) : Vbdlad.sameEnds p (a, b) = Vbdlad.sameEnds p q := by
  obtain ⟨x, y⟩ := q
  unfold Vbdlad.sameEnds at h ⊢
  simp at h
  rcases h with ⟨rfl, rfl⟩ | ⟨rfl, rfl⟩
  · rfl
  · simp only
    rw [Bool.or_comm]
theorem same_comm (p q : Nat × Nat) : Vbdlad.sameEnds p q = Vbdlad.sameEnds q p := by
  unfold Vbdlad.sameEnds
  rw [Bool.eq_iff_iff]
  simp
  constructor
  · rintro (⟨h1, h2⟩ | ⟨h1, h2⟩)
    · exact .inl ⟨h1.symm, h2.symm⟩
    · exact .inr ⟨h2.symm, h1.symm⟩
  · rintro (⟨h1, h2⟩ | ⟨h1, h2⟩)
    · exact .inl ⟨h1.symm, h2.symm⟩
    · exact .inr ⟨h2.symm, h1.symm⟩
theorem erase_filter {q : Nat × Nat} {a b : Nat} (hs : Vbdlad.sameEnds q (a, b) = true) : ∀ {js : Js}, js.Pairwise (fun p q => Vbdlad.sameEnds p q = false) → q ∈ js → js.erase q = js.filter fun p => !Vbdlad.sameEnds p (a, b)
  | [], _, h => by cases h
  | p :: js, pw, h => by
    obtain ⟨h1, h2⟩ := List.pairwise_cons.mp pw
    by_cases e : p = q
    · subst e
      rw [List.erase_cons_head, List.filter_cons, if_neg (by simp [hs])]
      refine (List.filter_eq_self.mpr fun r hr => ?_).symm
      rw [same_as hs, same_comm, h1 r hr]
      rfl
    · have hm : q ∈ js := (List.mem_cons.mp h).resolve_left fun z => e z.symm
      rw [List.erase_cons_tail (by simpa using e), List.filter_cons, if_pos (by rw [same_as hs, h1 q hm]; rfl), erase_filter hs h2 hm]
theorem not_false' {b : Bool} (h : (!b) = false) : b = true := by cases b <;> simp_all
theorem not_true' {b : Bool} (h : (!b) = true) : b = false := by cases b <;> simp_all
def sp_allow (t : Adr) : Sp := spC 4 2 t
theorem g_allow (T : Txt K mg t) : GFn P w K mg base 3 "allow" ["plant", "given"] (sp_allow t) := by
  refine T.f_allow.ok sc_allow bn_allow ?len ?body
  case len => exact spC_len
  case body =>
    intro f cdv A outer s' H vs Q E hr h
    obtain ⟨R, s, g, ns, rfl, h, wf, hg, hn, k⟩ := h
    obtain ⟨a, b, rfl⟩ := l2 hn
    refine ⟨_, (pss_cons (ps_set (i := 2) sc_allow.nd rfl (Or.inl rfl) (pe_ix ix_list (pv 1) pe_int (fun _ _ => rfl)))
      (pss_cons (ps_set (i := 3) sc_allow.nd rfl (Or.inl rfl) (pe_ix ix_list (pv 1) pe_int (fun _ _ => rfl)))
      (pss_cons (ps_if (pt_not (pt_val (pe_fn (g_has_both T) (hr.mono (by decide)) rfl (pac (pv 0) (pac (pv 2) (pac (pv 3) pa_nil)))))) (pss_one (ps_ret (pe_lst (pac (pe_gi rfl T.i_OUT_OF_RANGE) pa_nil)))) pss_nil)
      (pss_cons (ps_set (i := 4) sc_allow.nd rfl (Or.inl rfl) (pe_me (pe_at (pv 0)) T.c_Net (g_Net_forbidden_as T) (hr.mono (by decide)) (pac (pv 2) (pac (pv 3) pa_nil))))
      (pss_cons (ps_if (pt_cmpR op_isN (pv 4) pe_non (nomark _)) (pss_one (ps_ret (pe_lst (pac pe_int pa_nil)))) pss_nil)
      (pss_cons (ps_expr (pe_lm PySem.F.slot_list_remove PySem.F.type_list_remove (mt_removeT hr) (pe_at (pe_at (pv 0))) (pac (pv 4) pa_nil)))
      (pss_one (ps_ret (pe_lst (pac pe_int pa_nil)))))))))), ?_⟩
    refine ⟨_, rfl, ⟨_, _, _, _, rfl, rfl, SqL.of hg, rfl, ?_⟩⟩
    refine ⟨_, rfl, ⟨_, _, _, _, rfl, rfl, SqL.of hg, rfl, ?_⟩⟩
    have hst := st_4 s a b
    refine ⟨_, rfl, _, rfl, _, rfl, ⟨R, s, a, b, rfl, h, _, rfl, ?_⟩⟩
    rw [← Bool.not_and] at hst
    refine ite_b (fun e => ?_) (fun e => ?_)
    · rw [if_pos e] at hst
      exact ⟨one, fun p np => fin1 k h hst (Same.refl H) np⟩
    · rw [if_neg (by rw [e]; exact Bool.false_ne_true)] at hst
      have e' := not_false' e
      rw [Bool.and_eq_true] at e'
      obtain ⟨na, rfl, ha⟩ := isNode_nat e'.1
      obtain ⟨nb, rfl, hb⟩ := isNode_nat e'.2
      rw [Int.toNat_natCast, Int.toNat_natCast, any_same] at hst
      refine ⟨_, rfl, rd_net T h (me_N h ⟨_, rfl, _, rfl, ⟨R, s, na, nb, rfl, h, fun H1 v s1 hv => ?_⟩⟩)⟩
      refine ⟨_, rfl, rfl, _, rfl, ?_⟩
      rw [asfb_non hv]
      have hR1 := h.same s1
      refine ite_b (fun e => ?_) (fun e => ?_)
      · rw [if_neg (by rw [not_true' e]; exact Bool.false_ne_true)] at hst
        exact ⟨one, fun p np => fin1 k h hst s1 np⟩
      · have e := not_false' e
        rw [if_pos e] at hst
        have e := of_decide_eq_true e
        obtain ⟨q, adr, rfl, hq, hqm, hqs⟩ : ∃ q adr, v = V.ref adr ∧ H1 adr = some (tup2 q) ∧ q ∈ s.forbidden ∧ Vbdlad.sameEnds q (na, nb) = true := by
          unfold AsFb at hv
          split at hv
          · rename_i hm
            obtain ⟨r, e1, e2⟩ := hv
            exact ⟨_, r, e1, e2, hm, by simp [Vbdlad.sameEnds]⟩
          · rename_i hm
            split at hv
            · rename_i hm2
              obtain ⟨r, e1, e2⟩ := hv
              exact ⟨_, r, e1, e2, hm2, by simp [Vbdlad.sameEnds]⟩
            · rename_i hm2
              exact absurd e (by simp [hm, hm2])
        obtain ⟨j, f1, f2, f3⟩ := first_of hqm
        refine ⟨_, rfl, rd_net T hR1 (rd_forbidden T hR1 ⟨.inl ⟨rfl, _, SqL.of hR1.lo⟩, _, rfl, R.lo, adr, R.fo, _, q, j, rfl, rfl, hR1.lo, hR1.fo, hq, f1, f2, ?_⟩)⟩
        have hR2 := hR1.dropForb j
        rw [f3, erase_filter hqs wf.foN hqm] at hR2
        refine ⟨one, fun p np => fin2 k hR2 ⟨rfl, fun c o e n => ?_, fun c hc => .inl hc, sub_refl⟩ hst np⟩
        rw [upd_ne fun z => n (.inr (.inr (.inr (.inr (.inl z)))))]
        exact s1 _ _ e
/-! ### a valve, a pump by its number -/
theorem wv_none {s : Ss} {v : Int} (h : (decide (0 ≤ v) && decide (v < (s.valves.length : Int))) = false) (f : Va → Ss × List Int) : Vbdlad.withValve s v f = (s, [-1]) := by
  unfold Vbdlad.withValve Vbdlad.valveAt
  by_cases h0 : 0 ≤ v
  · rw [decide_eq_true h0, Bool.true_and] at h
    have h1 := of_decide_eq_false h
    rw [if_pos h0, List.getElem?_eq_none (by omega)]
  · rw [if_neg h0]
theorem wv_some {s : Ss} {v : Int} (h : (decide (0 ≤ v) && decide (v < (s.valves.length : Int))) = true) : ∃ (i : Nat) (x : Va), v = (i : Int) ∧ s.valves[i]? = some x ∧ ∀ f, Vbdlad.withValve s v f = f x := by
  rw [Bool.and_eq_true, decide_eq_true_iff, decide_eq_true_iff] at h
  obtain ⟨x, hx⟩ : ∃ x, s.valves[v.toNat]? = some x := ⟨_, List.getElem?_eq_getElem (by omega)⟩
  refine ⟨v.toNat, x, by omega, hx, fun f => ?_⟩
  unfold Vbdlad.withValve Vbdlad.valveAt
  rw [if_pos h.1, hx]
theorem wp_none {s : Ss} {v : Int} (h : (decide (0 ≤ v) && decide (v < (s.pumps.length : Int))) = false) (f : Pu → Ss × List Int) : Vbdlad.withPump s v f = (s, [-1]) := by
  unfold Vbdlad.withPump Vbdlad.pumpAt
  by_cases h0 : 0 ≤ v
  · rw [decide_eq_true h0, Bool.true_and] at h
    have h1 := of_decide_eq_false h
    rw [if_pos h0, List.getElem?_eq_none (by omega)]
  · rw [if_neg h0]
theorem wp_some {s : Ss} {v : Int} (h : (decide (0 ≤ v) && decide (v < (s.pumps.length : Int))) = true) : ∃ (i : Nat) (x : Pu), v = (i : Int) ∧ s.pumps[i]? = some x ∧ ∀ f, Vbdlad.withPump s v f = f x := by
  rw [Bool.and_eq_true, decide_eq_true_iff, decide_eq_true_iff] at h
  obtain ⟨x, hx⟩ : ∃ x, s.pumps[v.toNat]? = some x := ⟨_, List.getElem?_eq_getElem (by omega)⟩
  refine ⟨v.toNat, x, by omega, hx, fun f => ?_⟩
  unfold Vbdlad.withPump Vbdlad.pumpAt
  rw [if_pos h.1, hx]
theorem ref_at {l : List Addr} {i : Nat} {a : Addr} (h : l[i]? = some a) : (l.map V.ref)[i]? = some (.ref a) := by rw [List.getElem?_map, h]; rfl
theorem Go.but {R : Root} {H H1 H2 : Hp} {a : Addr} (ha : Foot R a) (sm : Same H H1) (b : But a H1 H2) : Go R H R H2 := ⟨rfl, fun c o e n => b _ _ (sm _ _ e) fun q => n (by rw [q]; exact ha), fun _ h => .inl h, sub_refl⟩
theorem footV {R : Root} {i : Nat} {a : Addr} (h : R.vs[i]? = some a) : Foot R a := .inr (.inr (.inr (.inr (.inr (.inr (.inl (List.mem_of_getElem? h)))))))
theorem footP {R : Root} {i : Nat} {a : Addr} (h : R.ps[i]? = some a) : Foot R a := .inr (.inr (.inr (.inr (.inr (.inr (.inr (List.mem_of_getElem? h)))))))
def sp_open_valve (t : Adr) : Sp := spC 6 1 t
theorem g_open_valve (T : Txt K mg t) : GFn P w K mg base 4 "open_valve" ["plant", "given"] (sp_open_valve t) := by
  refine T.f_open_valve.ok sc_open_valve bn_open_valve ?len ?body
  case len => exact spC_len
  case body =>
    intro f cdv A outer s' H vs Q E hr h
    obtain ⟨R, s, g, ns, rfl, h, wf, hg, hn, k⟩ := h
    obtain ⟨v, rfl⟩ := l1 hn
    refine ⟨_, (pss_cons (ps_set (i := 2) sc_open_valve.nd rfl (Or.inl rfl) (pe_ix ix_list (pv 1) pe_int (fun _ _ => rfl)))
      (pss_cons (ps_if (pt_not (pt_val (pe_me (pe_at (pv 0)) T.c_Net (g_Net_has_valve T) (hr.mono (by decide)) (pac (pv 2) pa_nil)))) (pss_one (ps_ret (pe_lst (pac (pe_gi rfl T.i_OUT_OF_RANGE) pa_nil)))) pss_nil)
      (pss_cons (ps_set (i := 3) sc_open_valve.nd rfl (Or.inl rfl) (pe_ix ix_list (pe_at (pe_at (pv 0))) (pv 2) (fun _ _ => rfl)))
      (pss_cons (ps_if (pt_val (pe_at (pv 3))) (pss_one (ps_ret (pe_lst (pac pe_int pa_nil)))) pss_nil)
      (pss_cons (ps_if (pt_cmpR op_gt (pe_blt call_ln rfl T.b_len PySem.boot_len (pac (pe_me (pe_at (pv 0)) T.c_Net (g_Net_pairs_joined_by T) (hr.mono (by decide)) (pac (pe_at (pv 3)) (pac (pe_at (pv 3)) pa_nil))) pa_nil)) pe_int (nomark _)) (pss_one (ps_ret (pe_lst (pac (pe_gi rfl T.i_WOULD_JOIN) pa_nil)))) pss_nil)
      (pss_cons (ps_fld (pv 3) pe_bl rfl)
      (pss_one (ps_ret (pe_lst (pac pe_int pa_nil)))))))))), ?_⟩
    refine ⟨_, rfl, ⟨_, _, _, _, rfl, rfl, SqL.of hg, rfl, ?_⟩⟩
    have hst := st_6 s v
    refine ⟨_, rfl, rd_net T h (me_N h ⟨_, rfl, ⟨R, s, v, rfl, h, _, rfl, ?_⟩⟩)⟩
    refine ite_b (fun e => ?_) (fun e => ?_)
    · exact ⟨one, fun p np => fin1 k h (hst.trans (wv_none (not_true' e) _)) (Same.refl H) np⟩
    · obtain ⟨i, x, rfl, hx, hw⟩ := wv_some (not_false' e)
      rw [hw] at hst
      obtain ⟨a, ha, hva⟩ := h.vs.get hx
      have wx := wf.va x (List.mem_of_getElem? hx)
      refine ⟨_, rfl, rd_net T h (rd_valves T h ⟨_, rfl, ⟨_, _, _, _, rfl, rfl, SqL.of h.lv, at_of rfl (ref_at ha), ?_⟩⟩)⟩
      refine ⟨_, rfl, rd_V_up T hva ⟨_, rfl, ?_⟩⟩
      refine ite_b (fun e => ?_) (fun e => ?_)
      · rw [if_pos e] at hst
        exact ⟨one, fun p np => fin1 k h hst (Same.refl H) np⟩
      · rw [if_neg (by rw [e]; exact Bool.false_ne_true)] at hst
        refine ⟨_, rfl, rd_net T h (me_N h ⟨_, rfl, rd_V_a T hva ⟨_, rfl, rd_V_b T hva ⟨R, s, x.a, x.b, rfl, h, wf, wx.a, wx.b, fun H1 q us s1 nq hq hP => ⟨q, us.length, rfl, LenIs.of hq (by simp), _, _, rfl, rfl, _, rfl, ?_⟩⟩⟩⟩)⟩
        rw [pos_len hP]
        refine ite_b (fun e => ?_) (fun e => ?_)
        · rw [if_pos (of_decide_eq_true e)] at hst
          exact ⟨one, fun p np => fin1 k h hst s1 np⟩
        · rw [if_neg (of_decide_eq_false e)] at hst
          have hva1 : VaAt t H1 a x := hva.same fun o e => s1 _ _ e
          refine ⟨_, rfl, st_V T hva1 T.n_Valve_up (v' := { x with up := true }) rfl fun H2 h2 b2 => ?_⟩
          exact ⟨one, fun p np => fin2 k ((h.same s1).setValve ha h2 b2) (Go.but (footV ha) s1 b2) hst np⟩
def sp_shut_valve (t : Adr) : Sp := spC 7 1 t
theorem g_shut_valve (T : Txt K mg t) : GFn P w K mg base 2 "shut_valve" ["plant", "given"] (sp_shut_valve t) := by
  refine T.f_shut_valve.ok sc_shut_valve bn_shut_valve ?len ?body
  case len => exact spC_len
  case body =>
    intro f cdv A outer s' H vs Q E hr h
    obtain ⟨R, s, g, ns, rfl, h, wf, hg, hn, k⟩ := h
    obtain ⟨v, rfl⟩ := l1 hn
    refine ⟨_, (pss_cons (ps_set (i := 2) sc_shut_valve.nd rfl (Or.inl rfl) (pe_ix ix_list (pv 1) pe_int (fun _ _ => rfl)))
      (pss_cons (ps_if (pt_not (pt_val (pe_me (pe_at (pv 0)) T.c_Net (g_Net_has_valve T) (hr.mono (by decide)) (pac (pv 2) pa_nil)))) (pss_one (ps_ret (pe_lst (pac (pe_gi rfl T.i_OUT_OF_RANGE) pa_nil)))) pss_nil)
      (pss_cons (ps_set (i := 3) sc_shut_valve.nd rfl (Or.inl rfl) (pe_ix ix_list (pe_at (pe_at (pv 0))) (pv 2) (fun _ _ => rfl)))
      (pss_cons (ps_if (pt_not (pt_val (pe_at (pv 3)))) (pss_one (ps_ret (pe_lst (pac pe_int pa_nil)))) pss_nil)
      (pss_cons (ps_fld (pv 3) pe_bl rfl)
      (pss_one (ps_ret (pe_lst (pac pe_int pa_nil))))))))), ?_⟩
    refine ⟨_, rfl, ⟨_, _, _, _, rfl, rfl, SqL.of hg, rfl, ?_⟩⟩
    have hst := st_7 s v
    refine ⟨_, rfl, rd_net T h (me_N h ⟨_, rfl, ⟨R, s, v, rfl, h, _, rfl, ?_⟩⟩)⟩
    refine ite_b (fun e => ?_) (fun e => ?_)
    · exact ⟨one, fun p np => fin1 k h (hst.trans (wv_none (not_true' e) _)) (Same.refl H) np⟩
    · obtain ⟨i, x, rfl, hx, hw⟩ := wv_some (not_false' e)
      rw [hw] at hst
      obtain ⟨a, ha, hva⟩ := h.vs.get hx
      refine ⟨_, rfl, rd_net T h (rd_valves T h ⟨_, rfl, ⟨_, _, _, _, rfl, rfl, SqL.of h.lv, at_of rfl (ref_at ha), ?_⟩⟩)⟩
      refine ⟨_, rfl, rd_V_up T hva ⟨_, rfl, ?_⟩⟩
      refine ite_b (fun e => ?_) (fun e => ?_)
      · rw [if_pos (not_true' e)] at hst
        exact ⟨one, fun p np => fin1 k h hst (Same.refl H) np⟩
      · rw [if_neg (by rw [not_false' e]; simp)] at hst
        refine ⟨_, rfl, st_V T hva T.n_Valve_up (v' := { x with up := false }) rfl fun H2 h2 b2 => ?_⟩
        exact ⟨one, fun p np => fin2 k (h.setValve ha h2 b2) (Go.but (footV ha) (Same.refl H) b2) hst np⟩
def sp_run (t : Adr) : Sp := spC 9 2 t
theorem g_run (T : Txt K mg t) : GFn P w K mg base 2 "run" ["plant", "given"] (sp_run t) := by
  refine T.f_run.ok sc_run bn_run ?len ?body
  case len => exact spC_len
  case body =>
    intro f cdv A outer s' H vs Q E hr h
    obtain ⟨R, s, g, ns, rfl, h, wf, hg, hn, k⟩ := h
    obtain ⟨v, tg, rfl⟩ := l2 hn
    refine ⟨_, (pss_cons (ps_set (i := 2) sc_run.nd rfl (Or.inl rfl) (pe_ix ix_list (pv 1) pe_int (fun _ _ => rfl)))
      (pss_cons (ps_set (i := 3) sc_run.nd rfl (Or.inl rfl) (pe_ix ix_list (pv 1) pe_int (fun _ _ => rfl)))
      (pss_cons (ps_if (pt_not (pt_val (pe_me (pv 0) T.c_Plant (g_Plant_has_pump T) (hr.mono (by decide)) (pac (pv 2) pa_nil)))) (pss_one (ps_ret (pe_lst (pac (pe_gi rfl T.i_OUT_OF_RANGE) pa_nil)))) pss_nil)
      (pss_cons (ps_set (i := 4) sc_run.nd rfl (Or.inl rfl) (pe_ix ix_list (pe_at (pv 0)) (pv 2) (fun _ _ => rfl)))
      (pss_cons (ps_if (pt_cmpR op_gt (pe_blt call_abs rfl T.b_abs PyProof.Rows.boot_abs (pac (pv 3) pa_nil)) (pe_at (pv 4)) (nomark _)) (pss_one (ps_ret (pe_lst (pac (pe_gi rfl T.i_OUT_OF_RANGE) pa_nil)))) pss_nil)
      (pss_cons (ps_if (pt_cmpR op_ne (pe_at (pv 4)) pe_int (nomark _)) (pss_one (ps_ret (pe_lst (pac (pe_gi rfl T.i_HAS_FAULT) pa_nil)))) pss_nil)
      (pss_cons (ps_fld (pv 4) (pv 3) rfl)
      (pss_one (ps_ret (pe_lst (pac pe_int pa_nil))))))))))), ?_⟩
    refine ⟨_, rfl, ⟨_, _, _, _, rfl, rfl, SqL.of hg, rfl, ?_⟩⟩
    refine ⟨_, rfl, ⟨_, _, _, _, rfl, rfl, SqL.of hg, rfl, ?_⟩⟩
    have hst := st_9 s v tg
    refine ⟨_, rfl, me_L h ⟨_, rfl, ⟨R, s, v, rfl, h, _, rfl, ?_⟩⟩⟩
    refine ite_b (fun e => ?_) (fun e => ?_)
    · exact ⟨one, fun p np => fin1 k h (hst.trans (wp_none (not_true' e) _)) (Same.refl H) np⟩
    · obtain ⟨i, x, rfl, hx, hw⟩ := wp_some (not_false' e)
      rw [hw] at hst
      obtain ⟨a, ha, hpa⟩ := h.ps.get hx
      refine ⟨_, rfl, rd_pumps T h ⟨_, rfl, ⟨_, _, _, _, rfl, rfl, SqL.of h.lu, at_of rfl (ref_at ha), ?_⟩⟩⟩
      refine ⟨_, rfl, ⟨_, rfl, _, rfl, rd_P_den T hpa ⟨_, _, rfl, rfl, _, rfl, ?_⟩⟩⟩
      refine ite_b (fun e => ?_) (fun e => ?_)
      · have e := of_decide_eq_true e
        rw [if_pos (by
          have : Vbdlad.within tg (-(x.den : Int)) x.den = false := by
            unfold Vbdlad.within
            split at e
            · rw [decide_eq_false (by omega)]; rfl
            · rw [decide_eq_false (p := tg ≤ _) (by omega), Bool.and_false]
          rw [this]; rfl)] at hst
        exact ⟨one, fun p np => fin1 k h hst (Same.refl H) np⟩
      · have e := of_decide_eq_false e
        rw [if_neg (by
          have : Vbdlad.within tg (-(x.den : Int)) x.den = true := by
            refine within_iff.mpr ?_
            split at e <;> omega
          rw [this]; exact Bool.false_ne_true)] at hst
        refine ⟨_, rfl, rd_P_fault T hpa ⟨rfl, _, rfl, ?_⟩⟩
        rw [int0]
        refine ite_b (fun e => ?_) (fun e => ?_)
        · rw [if_pos (by simpa using e)] at hst
          exact ⟨one, fun p np => fin1 k h hst (Same.refl H) np⟩
        · rw [if_neg (by simpa using e)] at hst
          refine ⟨_, rfl, _, rfl, st_P T hpa T.n_Pump_target (v' := { x with target := tg }) rfl fun H2 h2 b2 => ?_⟩
          exact ⟨one, fun p np => fin2 k (h.setPump ha h2 b2) (Go.but (footP ha) (Same.refl H) b2) hst np⟩
def sp_clear_pump (t : Adr) : Sp := spC 12 1 t
theorem g_clear_pump (T : Txt K mg t) : GFn P w K mg base 2 "clear_pump" ["plant", "given"] (sp_clear_pump t) := by
  refine T.f_clear_pump.ok sc_clear_pump bn_clear_pump ?len ?body
  case len => exact spC_len
  case body =>
    intro f cdv A outer s' H vs Q E hr h
    obtain ⟨R, s, g, ns, rfl, h, wf, hg, hn, k⟩ := h
    obtain ⟨v, rfl⟩ := l1 hn
    refine ⟨_, (pss_cons (ps_set (i := 2) sc_clear_pump.nd rfl (Or.inl rfl) (pe_ix ix_list (pv 1) pe_int (fun _ _ => rfl)))
      (pss_cons (ps_if (pt_not (pt_val (pe_me (pv 0) T.c_Plant (g_Plant_has_pump T) (hr.mono (by decide)) (pac (pv 2) pa_nil)))) (pss_one (ps_ret (pe_lst (pac (pe_gi rfl T.i_OUT_OF_RANGE) pa_nil)))) pss_nil)
      (pss_cons (ps_set (i := 3) sc_clear_pump.nd rfl (Or.inl rfl) (pe_ix ix_list (pe_at (pv 0)) (pv 2) (fun _ _ => rfl)))
      (pss_cons (ps_if (pt_cmpR op_eq (pe_at (pv 3)) pe_int (nomark _)) (pss_one (ps_ret (pe_lst (pac pe_int pa_nil)))) pss_nil)
      (pss_cons (ps_expr (pe_me0 (pv 3) T.c_Pump (g_Pump_clear_fault T) (hr.mono (by decide))))
      (pss_one (ps_ret (pe_lst (pac pe_int pa_nil))))))))), ?_⟩
    refine ⟨_, rfl, ⟨_, _, _, _, rfl, rfl, SqL.of hg, rfl, ?_⟩⟩
    have hst := st_12 s v
    refine ⟨_, rfl, me_L h ⟨_, rfl, ⟨R, s, v, rfl, h, _, rfl, ?_⟩⟩⟩
    refine ite_b (fun e => ?_) (fun e => ?_)
    · exact ⟨one, fun p np => fin1 k h (hst.trans (wp_none (not_true' e) _)) (Same.refl H) np⟩
    · obtain ⟨i, x, rfl, hx, hw⟩ := wp_some (not_false' e)
      rw [hw] at hst
      obtain ⟨a, ha, hpa⟩ := h.ps.get hx
      refine ⟨_, rfl, rd_pumps T h ⟨_, rfl, ⟨_, _, _, _, rfl, rfl, SqL.of h.lu, at_of rfl (ref_at ha), ?_⟩⟩⟩
      refine ⟨_, rfl, rd_P_fault T hpa ⟨rfl, _, rfl, ?_⟩⟩
      rw [int0]
      refine ite_b (fun e => ?_) (fun e => ?_)
      · rw [if_pos (of_decide_eq_true e)] at hst
        exact ⟨one, fun p np => fin1 k h hst (Same.refl H) np⟩
      · rw [if_neg (of_decide_eq_false e)] at hst
        refine ⟨_, rfl, me_P hpa ⟨_, _, rfl, hpa, fun H2 h2 b2 => ?_⟩⟩
        exact ⟨one, fun p np => fin2 k (h.setPump ha h2 b2) (Go.but (footP ha) (Same.refl H) b2) hst np⟩
end
end Pn

set_option Elab.async false
set_option linter.all false
set_option maxRecDepth 100000
set_option maxHeartbeats 2000000
namespace Pn
open PySem PySem.Spec PyProof.Rows L2
section
variable {P : Program} {w : World} {K : PySem.W.Frag} {mg : Str → Option Value} {base : Heap} {t : Adr}
section
variable {Q : VK} {R : Root} {s s' : Ss} {H H0 : Hp} {p : Addr} {st : Ss × List Int} {zs : List Int}
/-- an answer of several numbers written out, behind a change or none -/
theorem finN {R' : Root} (k : ∀ H' R' p, Rep t R' st.1 H' → Go R H R' H' → H p = none → H' p = some (iL st.2) → Q (.ref p) H') (h : Rep t R' s' H0) (g : Go R H R' H0) (e : st = (s', zs)) (np : H0 p = none) : Q (.ref p) (upd H0 p (iL zs)) := by
  subst e
  exact k _ R' p (h.same (Same.new np)) (g.then (Same.new np)) (g.free h np) upd_same
end
theorem Go.ticks {R : Root} {H H' : Hp} (k : TKeep R H H') : Go R H R H' := ⟨rfl, fun b o e n => k b o e fun q => n q.foot, fun _ h => .inl h, sub_refl⟩
def sp_tick (t : Adr) : Sp := spC 10 1 t
theorem g_tick (T : Txt K mg t) : GFn P w K mg base 6 "tick" ["plant", "given"] (sp_tick t) := by
  refine T.f_tick.ok sc_tick bn_tick ?len ?body
  case len => exact spC_len
  case body =>
    intro f cdv A outer s' H vs Q E hr h
    obtain ⟨R, s, g, ns, rfl, h, wf, hg, hn, k⟩ := h
    obtain ⟨x, rfl⟩ := l1 hn
    refine ⟨_, (pss_cons (ps_set (i := 2) sc_tick.nd rfl (Or.inl rfl) (pe_ix ix_list (pv 1) pe_int (fun _ _ => rfl)))
      (pss_cons (ps_if (pt_not (pt_chain op_le op_le pe_int (pv 2) pe_int)) (pss_one (ps_ret (pe_lst (pac (pe_gi rfl T.i_OUT_OF_RANGE) pa_nil)))) pss_nil)
      (pss_cons (ps_if (pt_cmpR op_gt (pe_op op_add (pe_at (pv 0)) (pv 2)) (pe_gi rfl T.i_MOST_CLOCK) (nomark _)) (pss_one (ps_ret (pe_lst (pac (pe_gi rfl T.i_TOO_LATE) pa_nil)))) pss_nil)
      (pss_cons (ps_set (i := 3) sc_tick.nd rfl (Or.inl rfl) (pe_me0 (pv 0) T.c_Plant (g_Plant_faults T) (hr.mono (by decide))))
      (pss_cons (ps_expr (pe_me (pv 0) T.c_Plant (g_Plant_go_on T) (hr.mono (by decide)) (pac (pv 2) pa_nil)))
      (pss_one (ps_ret (pe_lst (pac (pe_op op_sub (pe_me0 (pv 0) T.c_Plant (g_Plant_faults T) (hr.mono (by decide))) (pv 3)) pa_nil))))))))), ?_⟩
    refine ⟨_, rfl, ⟨_, _, _, _, rfl, rfl, SqL.of hg, rfl, ?_⟩⟩
    have hst := st_10 s x
    have bad : Vbdlad.within x 1 (Vbdlad.TICKS : Int) = false → ∀ p, H p = none → Q (.ref p) (upd H p (.lst [.int (-1)])) := fun e p np => fin1 k h (by rw [hst, e]; rfl) (Same.refl H) np
    refine ⟨_, rfl, _, _, rfl, rfl, _, rfl, ?_⟩
    refine ite_b (fun e1 => ?_) (fun e1 => ?_)
    · refine ⟨_, _, rfl, rfl, _, rfl, ?_⟩
      refine ite_b (fun e2 => ?_) (fun e2 => ?_)
      · exact ⟨one, bad (by unfold Vbdlad.within; rw [e1, Bool.true_and]; exact not_true' e2)⟩
      · have e2 := not_false' e2
        have ew : Vbdlad.within x 1 (Vbdlad.TICKS : Int) = true := by unfold Vbdlad.within; rw [e1, Bool.true_and]; exact e2
        have h1 := of_decide_eq_true e1
        have h2 := of_decide_eq_true e2
        obtain ⟨n, rfl⟩ : ∃ n : Nat, x = (n : Int) := ⟨x.toNat, by omega⟩
        rw [ew, if_neg (by simp), Int.toNat_natCast] at hst
        refine ⟨_, rfl, rd_clock T h ⟨_, rfl, _, _, rfl, rfl, _, _, rfl, rfl, _, rfl, ?_⟩⟩
        refine ite_b (fun e => ?_) (fun e => ?_)
        · have e := of_decide_eq_true e
          rw [if_pos (by unfold Vbdlad.LASTTICK; omega)] at hst
          exact ⟨one, fun p np => fin1 k h hst (Same.refl H) np⟩
        · have e := of_decide_eq_false e
          rw [if_neg (by unfold Vbdlad.LASTTICK; omega)] at hst
          refine ⟨_, rfl, me_L h ⟨R, s, rfl, h, wf.puL, fun H1 s1 => ?_⟩⟩
          have hR1 := h.same s1
          refine ⟨_, rfl, me_L hR1 ⟨_, rfl, ⟨R, s, n, rfl, hR1, wf, by omega, fun H2 hR2 kp => ?_⟩⟩⟩
          refine ⟨_, rfl, me_L hR2 ⟨R, _, rfl, hR2, (ticks_wf n wf).puL, fun H3 s3 => ⟨_, rfl, _, _, rfl, rfl, one, fun p np => ?_⟩⟩⟩
          have ez : ((Vbdlad.faults (Vbdlad.ticks n s) : Int) - (Vbdlad.faults s : Int)) = ((Vbdlad.faults (Vbdlad.ticks n s) - Vbdlad.faults s : Nat) : Int) := by
            have := faults_ticks n s
            omega
          exact fin2 k (hR2.same s3) (((Go.ticks ((TKeep.same s1).trans kp)).then s3)) (by rw [ez]; exact hst) np
    · refine ⟨_, rfl, one, bad (by unfold Vbdlad.within; rw [e1]; rfl)⟩
def sp_pulses (t : Adr) : Sp := spC 11 2 t
theorem g_pulses (T : Txt K mg t) : GFn P w K mg base 4 "pulses" ["plant", "given"] (sp_pulses t) := by
  refine T.f_pulses.ok sc_pulses bn_pulses ?len ?body
  case len => exact spC_len
  case body =>
    intro f cdv A outer s' H vs Q E hr h
    obtain ⟨R, s, g, ns, rfl, h, wf, hg, hn, k⟩ := h
    obtain ⟨v, x, rfl⟩ := l2 hn
    refine ⟨_, (pss_cons (ps_set (i := 2) sc_pulses.nd rfl (Or.inl rfl) (pe_ix ix_list (pv 1) pe_int (fun _ _ => rfl)))
      (pss_cons (ps_set (i := 3) sc_pulses.nd rfl (Or.inl rfl) (pe_ix ix_list (pv 1) pe_int (fun _ _ => rfl)))
      (pss_cons (ps_if (pw_or (pt_not (pt_val (pe_me (pv 0) T.c_Plant (g_Plant_has_pump T) (hr.mono (by decide)) (pac (pv 2) pa_nil)))) (pw_or1 (pt_not (pt_chain op_le op_le pe_int (pv 3) pe_int)))).pt (pss_one (ps_ret (pe_lst (pac (pe_gi rfl T.i_OUT_OF_RANGE) pa_nil)))) pss_nil)
      (pss_cons (ps_set (i := 4) sc_pulses.nd rfl (Or.inl rfl) (pe_ix ix_list (pe_at (pv 0)) (pv 2) (fun _ _ => rfl)))
      (pss_cons (ps_set (i := 5) sc_pulses.nd rfl (Or.inl rfl) (pe_me (pv 4) T.c_Pump (g_Pump_take_pulses T) (hr.mono (by decide)) (pac (pv 3) pa_nil)))
      (pss_one (ps_ret (pe_lst (pac (pv 5) (pac (pe_at (pv 4)) pa_nil)))))))))), ?_⟩
    refine ⟨_, rfl, ⟨_, _, _, _, rfl, rfl, SqL.of hg, rfl, ?_⟩⟩
    refine ⟨_, rfl, ⟨_, _, _, _, rfl, rfl, SqL.of hg, rfl, ?_⟩⟩
    have hst := st_11 s v x
    refine ⟨_, rfl, me_L h ⟨_, rfl, ⟨R, s, v, rfl, h, _, rfl, ?_⟩⟩⟩
    refine ite_b (fun e => ?_) (fun e => ?_)
    · exact ⟨one, fun p np => fin1 k h (hst.trans (wp_none (not_true' e) _)) (Same.refl H) np⟩
    · obtain ⟨i, pu, rfl, hx, hw⟩ := wp_some (not_false' e)
      rw [hw] at hst
      obtain ⟨a, ha, hpa⟩ := h.ps.get hx
      have wp := wf.pu pu (List.mem_of_getElem? hx)
      have bad : Vbdlad.within x 0 1000000 = false → ∀ p, H p = none → Q (.ref p) (upd H p (.lst [.int (-1)])) := fun e p np => fin1 k h (by rw [hst, e]; rfl) (Same.refl H) np
      refine ⟨_, rfl, _, _, rfl, rfl, _, rfl, ?_⟩
      refine ite_b (fun e1 => ?_) (fun e1 => ?_)
      · refine ⟨_, _, rfl, rfl, _, rfl, ?_⟩
        refine ite_b (fun e2 => ?_) (fun e2 => ?_)
        · exact ⟨one, bad (by unfold Vbdlad.within; rw [e1, Bool.true_and]; exact not_true' e2)⟩
        · have e2 := not_false' e2
          have ew : Vbdlad.within x 0 1000000 = true := by unfold Vbdlad.within; rw [e1, Bool.true_and]; exact e2
          have h1 := of_decide_eq_true e1
          obtain ⟨n, rfl⟩ : ∃ n : Nat, x = (n : Int) := ⟨x.toNat, by omega⟩
          rw [ew, if_neg (by simp), Int.toNat_natCast] at hst
          refine ⟨_, rfl, rd_pumps T h ⟨_, rfl, ⟨_, _, _, _, rfl, rfl, SqL.of h.lu, at_of rfl (ref_at ha), ?_⟩⟩⟩
          refine ⟨_, rfl, me_P hpa ⟨_, rfl, ⟨a, pu, n, rfl, hpa, wp.per.1, wp.per.2, fun H2 h2 b2 => ?_⟩⟩⟩
          refine ⟨_, rfl, _, rfl, rd_P_fault T h2 ⟨two, fun p np => ?_⟩⟩
          exact finN k (h.setPump ha h2 b2) (Go.but (footP ha) (Same.refl H) b2) hst np
      · exact ⟨_, rfl, one, bad (by unfold Vbdlad.within; rw [e1]; rfl)⟩
def sp_joined (t : Adr) : Sp := spC 13 2 t
theorem g_joined (T : Txt K mg t) : GFn P w K mg base 5 "joined" ["plant", "given"] (sp_joined t) := by
  refine T.f_joined.ok sc_joined bn_joined ?len ?body
  case len => exact spC_len
  case body =>
    intro f cdv A outer s' H vs Q E hr h
    obtain ⟨R, s, g, ns, rfl, h, wf, hg, hn, k⟩ := h
    obtain ⟨a, b, rfl⟩ := l2 hn
    refine ⟨_, (pss_cons (ps_set (i := 2) sc_joined.nd rfl (Or.inl rfl) (pe_ix ix_list (pv 1) pe_int (fun _ _ => rfl)))
      (pss_cons (ps_set (i := 3) sc_joined.nd rfl (Or.inl rfl) (pe_ix ix_list (pv 1) pe_int (fun _ _ => rfl)))
      (pss_cons (ps_if (pt_not (pt_val (pe_fn (g_has_both T) (hr.mono (by decide)) rfl (pac (pv 0) (pac (pv 2) (pac (pv 3) pa_nil)))))) (pss_one (ps_ret (pe_lst (pac (pe_gi rfl T.i_OUT_OF_RANGE) pa_nil)))) pss_nil)
      (pss_one (ps_ret (pe_lst (pac (pe_ifExp (pt_val (pe_me (pe_at (pv 0)) T.c_Net (g_Net_are_joined T) (hr.mono (by decide)) (pac (pv 2) (pac (pv 3) pa_nil)))) pe_int pe_int) pa_nil))))))), ?_⟩
    refine ⟨_, rfl, ⟨_, _, _, _, rfl, rfl, SqL.of hg, rfl, ?_⟩⟩
    refine ⟨_, rfl, ⟨_, _, _, _, rfl, rfl, SqL.of hg, rfl, ?_⟩⟩
    have hst := st_13 s a b
    refine ⟨_, rfl, _, rfl, _, rfl, ⟨R, s, a, b, rfl, h, _, rfl, ?_⟩⟩
    rw [← Bool.not_and] at hst
    refine ite_b (fun e => ?_) (fun e => ?_)
    · rw [if_pos e] at hst
      exact ⟨one, fun p np => fin1 k h hst (Same.refl H) np⟩
    · rw [if_neg (by rw [e]; exact Bool.false_ne_true)] at hst
      have e' := not_false' e
      rw [Bool.and_eq_true] at e'
      obtain ⟨na, rfl, ha⟩ := isNode_nat e'.1
      obtain ⟨nb, rfl, hb⟩ := isNode_nat e'.2
      rw [Int.toNat_natCast, Int.toNat_natCast] at hst
      refine ⟨_, rfl, rd_net T h (me_N h ⟨_, rfl, _, rfl, ⟨R, s, na, nb, rfl, h, wf, ha, hb, fun H1 s1 => ⟨_, rfl, ?_⟩⟩⟩)⟩
      unfold Vbdlad.bit at hst
      refine ite_b (fun e => ?_) (fun e => ?_)
      · rw [if_pos e] at hst
        exact ⟨one, fun p np => fin1 k h hst s1 np⟩
      · rw [if_neg (by rw [e]; exact Bool.false_ne_true)] at hst
        exact ⟨one, fun p np => fin1 k h hst s1 np⟩
/-- a list of numbers with its count -/
theorem cnt (l : List Nat) : (.lst (.int ((l.map fun (n : Nat) => V.int n).length : Nat) :: l.map fun (n : Nat) => V.int n) : HO) = iL (Vbdlad.counted l) := by
  unfold iL Vbdlad.counted
  rw [List.map_cons, List.map_map, List.length_map]
  rfl
def sp_islands (t : Adr) : Sp := spC 14 0 t
theorem g_islands (T : Txt K mg t) : GFn P w K mg base 4 "islands" ["plant", "given"] (sp_islands t) := by
  refine T.f_islands.ok sc_islands bn_islands ?len ?body
  case len => exact spC_len
  case body =>
    intro f cdv A outer s' H vs Q E hr h
    obtain ⟨R, s, g, ns, rfl, h, wf, hg, hn, k⟩ := h
    cases l0 hn
    refine ⟨_, (pss_one (ps_ret (pe_fn (g_with_count T) (hr.mono (by decide)) rfl (pac (pe_me0 (pe_at (pv 0)) T.c_Net (g_Net_islands T) (hr.mono (by decide))) pa_nil)))), ?_⟩
    have hst := st_14 s
    rw [islands_eq wf] at hst
    have hl := leastJ_len s.nodes.length (Vbdlad.joints s) wf.joints
    refine ⟨_, rfl, rd_net T h (me_N h ⟨R, s, rfl, h, wf, fun H1 p s1 np hp => ⟨p, _, rfl, hp, by rw [List.length_map, hl]; exact Nat.le_trans wf.n24 (by decide), fun H2 q s2 nq hq => ?_⟩⟩)⟩
    rw [cnt] at hq
    exact finL k h hst (s1.trans s2) (s1.free nq) hq
def sp_way (t : Adr) : Sp := spC 15 2 t
theorem wayFrom_len {s : Ss} {y : Nat} : ∀ (n d : Nat) (l : List Nat), (Vbdlad.wayFrom s y n d l).length ≤ n
  | 0, d, l => Nat.le_refl _
  | n + 1, d, l => by
    unfold Vbdlad.wayFrom
    simp only
    split
    · exact Nat.zero_le _
    · rename_i i zs _
      have := wayFrom_len (s := s) (y := y) n (d - 1) zs
      simp only [List.length_cons]
      omega
theorem far_le {s : Ss} {y : Nat} : ∀ (n d : Nat) (l : List Nat) {e : Nat}, Vbdlad.distance s y n d l = some e → e ≤ d + n
  | 0, d, l, e, h => by
    unfold Vbdlad.distance at h
    split at h
    · cases h; omega
    · cases h
  | n + 1, d, l, e, h => by
    unfold Vbdlad.distance at h
    split at h
    · cases h; omega
    · have := far_le n (d + 1) _ h
      omega
theorem way_len {s : Ss} {x y : Nat} {l : List Nat} (h : Vbdlad.way s x y = some l) : l.length ≤ 24 := by
  unfold Vbdlad.way at h
  cases e : Vbdlad.far s x y with
  | none => rw [e] at h; cases h
  | some d =>
    rw [e] at h
    cases h
    have h1 := wayFrom_len (s := s) (y := y) d d [x]
    have h2 := far_le (s := s) (y := y) Vbdlad.NODES 0 [x] e
    unfold Vbdlad.NODES at h2
    show (Vbdlad.wayFrom s y d d [x]).length ≤ 24
    omega
theorem g_way (T : Txt K mg t) : GFn P w K mg base 5 "way" ["plant", "given"] (sp_way t) := by
  refine T.f_way.ok sc_way bn_way ?len ?body
  case len => exact spC_len
  case body =>
    intro f cdv A outer s' H vs Q E hr h
    obtain ⟨R, s, g, ns, rfl, h, wf, hg, hn, k⟩ := h
    obtain ⟨a, b, rfl⟩ := l2 hn
    refine ⟨_, (pss_cons (ps_set (i := 2) sc_way.nd rfl (Or.inl rfl) (pe_ix ix_list (pv 1) pe_int (fun _ _ => rfl)))
      (pss_cons (ps_set (i := 3) sc_way.nd rfl (Or.inl rfl) (pe_ix ix_list (pv 1) pe_int (fun _ _ => rfl)))
      (pss_cons (ps_if (pt_not (pt_val (pe_fn (g_has_both T) (hr.mono (by decide)) rfl (pac (pv 0) (pac (pv 2) (pac (pv 3) pa_nil)))))) (pss_one (ps_ret (pe_lst (pac (pe_gi rfl T.i_OUT_OF_RANGE) pa_nil)))) pss_nil)
      (pss_cons (ps_set (i := 4) sc_way.nd rfl (Or.inl rfl) (pe_me (pe_at (pv 0)) T.c_Net (g_Net_way T) (hr.mono (by decide)) (pac (pv 2) (pac (pv 3) pa_nil))))
      (pss_cons (ps_if (pt_cmpR op_isN (pv 4) pe_non (nomark _)) (pss_one (ps_ret (pe_lst (pac (pe_gi rfl T.i_NO_WAY) pa_nil)))) pss_nil)
      (pss_one (ps_ret (pe_fn (g_with_count T) (hr.mono (by decide)) rfl (pac (pv 4) pa_nil))))))))), ?_⟩
    refine ⟨_, rfl, ⟨_, _, _, _, rfl, rfl, SqL.of hg, rfl, ?_⟩⟩
    refine ⟨_, rfl, ⟨_, _, _, _, rfl, rfl, SqL.of hg, rfl, ?_⟩⟩
    have hst := st_15 s a b
    refine ⟨_, rfl, _, rfl, _, rfl, ⟨R, s, a, b, rfl, h, _, rfl, ?_⟩⟩
    rw [← Bool.not_and] at hst
    refine ite_b (fun e => ?_) (fun e => ?_)
    · rw [if_pos e] at hst
      exact ⟨one, fun p np => fin1 k h hst (Same.refl H) np⟩
    · rw [if_neg (by rw [e]; exact Bool.false_ne_true)] at hst
      have e' := not_false' e
      rw [Bool.and_eq_true] at e'
      obtain ⟨na, rfl, ha⟩ := isNode_nat e'.1
      obtain ⟨nb, rfl, hb⟩ := isNode_nat e'.2
      rw [Int.toNat_natCast, Int.toNat_natCast] at hst
      refine ⟨_, rfl, rd_net T h (me_N h ⟨_, rfl, _, rfl, ⟨R, s, na, nb, rfl, h, wf, ha, hb, fun H1 v s1 hv => ?_⟩⟩)⟩
      refine ⟨_, rfl, rfl, _, rfl, ?_⟩
      cases hw : Vbdlad.way s na nb with
      | none =>
        rw [hw] at hv hst
        cases (show v = .non from hv)
        exact ⟨one, fun p np => fin1 k h hst s1 np⟩
      | some l =>
        rw [hw] at hv hst
        obtain ⟨p, rfl, np, hp⟩ := hv
        refine ⟨_, rfl, ⟨p, _, rfl, hp, by rw [List.length_map]; exact Nat.le_trans (way_len hw) (by decide), fun H2 q s2 nq hq => ?_⟩⟩
        rw [cnt] at hq
        exact finL k h hst (s1.trans s2) (s1.free nq) hq
def sp_would (t : Adr) : Sp := spC 16 1 t
theorem would_len {s : Ss} {a b : Nat} (wf : Wf s) : (Vbdlad.wouldJoin s a b).length ≤ 24 := by
  unfold Vbdlad.wouldJoin Vbdlad.broken
  exact Nat.le_trans (List.length_filter_le _ _) wf.foL
theorem g_would (T : Txt K mg t) : GFn P w K mg base 4 "would" ["plant", "given"] (sp_would t) := by
  refine T.f_would.ok sc_would bn_would ?len ?body
  case len => exact spC_len
  case body =>
    intro f cdv A outer s' H vs Q E hr h
    obtain ⟨R, s, g, ns, rfl, h, wf, hg, hn, k⟩ := h
    obtain ⟨v, rfl⟩ := l1 hn
    refine ⟨_, (pss_cons (ps_set (i := 2) sc_would.nd rfl (Or.inl rfl) (pe_ix ix_list (pv 1) pe_int (fun _ _ => rfl)))
      (pss_cons (ps_if (pt_not (pt_val (pe_me (pe_at (pv 0)) T.c_Net (g_Net_has_valve T) (hr.mono (by decide)) (pac (pv 2) pa_nil)))) (pss_one (ps_ret (pe_lst (pac (pe_gi rfl T.i_OUT_OF_RANGE) pa_nil)))) pss_nil)
      (pss_cons (ps_set (i := 3) sc_would.nd rfl (Or.inl rfl) (pe_ix ix_list (pe_at (pe_at (pv 0))) (pv 2) (fun _ _ => rfl)))
      (pss_one (ps_ret (pe_fn (g_with_count_of_pairs T) (hr.mono (by decide)) rfl (pac (pe_me (pe_at (pv 0)) T.c_Net (g_Net_pairs_joined_by T) (hr.mono (by decide)) (pac (pe_at (pv 3)) (pac (pe_at (pv 3)) pa_nil))) pa_nil))))))), ?_⟩
    refine ⟨_, rfl, ⟨_, _, _, _, rfl, rfl, SqL.of hg, rfl, ?_⟩⟩
    have hst := st_16 s v
    refine ⟨_, rfl, rd_net T h (me_N h ⟨_, rfl, ⟨R, s, v, rfl, h, _, rfl, ?_⟩⟩)⟩
    refine ite_b (fun e => ?_) (fun e => ?_)
    · exact ⟨one, fun p np => fin1 k h (hst.trans (wv_none (not_true' e) _)) (Same.refl H) np⟩
    · obtain ⟨i, x, rfl, hx, hw⟩ := wv_some (not_false' e)
      rw [hw] at hst
      obtain ⟨a, ha, hva⟩ := h.vs.get hx
      have wx := wf.va x (List.mem_of_getElem? hx)
      refine ⟨_, rfl, rd_net T h (rd_valves T h ⟨_, rfl, ⟨_, _, _, _, rfl, rfl, SqL.of h.lv, at_of rfl (ref_at ha), ?_⟩⟩)⟩
      refine ⟨_, rfl, rd_net T h (me_N h ⟨_, rfl, rd_V_a T hva ⟨_, rfl, rd_V_b T hva ⟨R, s, x.a, x.b, rfl, h, wf, wx.a, wx.b, fun H1 q us s1 nq hq hP => ?_⟩⟩⟩)⟩
      exact ⟨q, us, _, rfl, hq, hP, Nat.le_trans (would_len wf) (by decide), fun H2 p s2 np hp => finL k h hst (s1.trans s2) (s1.free np) hp⟩
def sp_bridges (t : Adr) : Sp := spC 17 0 t
theorem g_bridges (T : Txt K mg t) : GFn P w K mg base 5 "bridges" ["plant", "given"] (sp_bridges t) := by
  refine T.f_bridges.ok sc_bridges bn_bridges ?len ?body
  case len => exact spC_len
  case body =>
    intro f cdv A outer s' H vs Q E hr h
    obtain ⟨R, s, g, ns, rfl, h, wf, hg, hn, k⟩ := h
    cases l0 hn
    refine ⟨_, (pss_one (ps_ret (pe_fn (g_with_count T) (hr.mono (by decide)) rfl (pac (pe_me0 (pe_at (pv 0)) T.c_Net (g_Net_bridges T) (hr.mono (by decide))) pa_nil)))), ?_⟩
    have hst := st_17 s
    refine ⟨_, rfl, rd_net T h (me_N h ⟨R, s, rfl, h, wf, fun H1 p s1 np hp => ⟨p, _, rfl, hp, ?_, fun H2 q s2 nq hq => ?_⟩⟩)⟩
    · rw [List.length_map]
      refine Nat.le_trans (List.length_filter_le _ _) ?_
      rw [List.length_range]
      exact Nat.le_trans wf.vaL (by decide)
    · rw [cnt] at hq
      exact finL k h hst (s1.trans s2) (s1.free nq) hq
end
end Pn

set_option Elab.async false
set_option linter.all false
set_option maxRecDepth 100000
set_option maxHeartbeats 2000000
namespace Pn
open PySem PySem.Spec PyProof.Rows L2
section
variable {P : Program} {w : World} {K : PySem.W.Frag} {mg : Str → Option Value} {base : Heap} {t : Adr}
theorem bit1 {b : Bool} (h : b = true) : (1 : Int) = Vbdlad.bit b := by rw [h]; rfl
theorem bit0 {b : Bool} (h : b = false) : (0 : Int) = Vbdlad.bit b := by rw [h]; rfl
def sp_valve_state (t : Adr) : Sp := spC 18 1 t
theorem g_valve_state (T : Txt K mg t) : GFn P w K mg base 2 "valve_state" ["plant", "given"] (sp_valve_state t) := by
  refine T.f_valve_state.ok sc_valve_state bn_valve_state ?len ?body
  case len => exact spC_len
  case body =>
    intro f cdv A outer s' H vs Q E hr h
    obtain ⟨R, s, g, ns, rfl, h, wf, hg, hn, k⟩ := h
    obtain ⟨v, rfl⟩ := l1 hn
    refine ⟨_, (pss_cons (ps_set (i := 2) sc_valve_state.nd rfl (Or.inl rfl) (pe_ix ix_list (pv 1) pe_int (fun _ _ => rfl)))
      (pss_cons (ps_if (pt_not (pt_val (pe_me (pe_at (pv 0)) T.c_Net (g_Net_has_valve T) (hr.mono (by decide)) (pac (pv 2) pa_nil)))) (pss_one (ps_ret (pe_lst (pac (pe_gi rfl T.i_OUT_OF_RANGE) pa_nil)))) pss_nil)
      (pss_cons (ps_set (i := 3) sc_valve_state.nd rfl (Or.inl rfl) (pe_ix ix_list (pe_at (pe_at (pv 0))) (pv 2) (fun _ _ => rfl)))
      (pss_cons (ps_set (i := 4) sc_valve_state.nd rfl (Or.inl rfl) (pe_ifExp (pt_val (pe_me0 (pv 3) T.c_Valve (g_Valve_counts_as_open T) (hr.mono (by decide)))) pe_int pe_int))
      (pss_cons (ps_set (i := 5) sc_valve_state.nd rfl (Or.inl rfl) (pe_ifExp (pt_val (pe_at (pv 3))) pe_int pe_int))
      (pss_one (ps_ret (pe_lst (pac (pv 4) (pac (pv 5) (pac (pe_at (pv 3)) (pac (pe_at (pv 3)) (pac (pe_at (pv 3)) (pac (pe_at (pv 3)) pa_nil)))))))))))))), ?_⟩
    refine ⟨_, rfl, ⟨_, _, _, _, rfl, rfl, SqL.of hg, rfl, ?_⟩⟩
    have hst := st_18 s v
    refine ⟨_, rfl, rd_net T h (me_N h ⟨_, rfl, ⟨R, s, v, rfl, h, _, rfl, ?_⟩⟩)⟩
    refine ite_b (fun e => ?_) (fun e => ?_)
    · exact ⟨one, fun p np => fin1 k h (hst.trans (wv_none (not_true' e) _)) (Same.refl H) np⟩
    · obtain ⟨i, x, rfl, hx, hw⟩ := wv_some (not_false' e)
      rw [hw] at hst
      obtain ⟨a, ha, hva⟩ := h.vs.get hx
      refine ⟨_, rfl, rd_net T h (rd_valves T h ⟨_, rfl, ⟨_, _, _, _, rfl, rfl, SqL.of h.lv, at_of rfl (ref_at ha), ?_⟩⟩)⟩
      have key : ∀ c u : Int, c = Vbdlad.bit (Vbdlad.counts x) → u = Vbdlad.bit x.up → ∀ p, H p = none → Q (.ref p) (upd H p (.lst [.int c, .int u, .int x.place, .int x.travel, .int x.a, .int x.b])) := fun c u ec eu p np => by
        subst ec eu
        exact finN k h (Go.same (Same.refl H)) hst np
      refine ⟨_, rfl, me_V hva ⟨_, _, rfl, hva, _, rfl, ?_⟩⟩
      refine ite_b (fun e1 => ?_) (fun e1 => ?_)
      · refine ⟨_, rfl, rd_V_up T hva ⟨_, rfl, ?_⟩⟩
        refine ite_b (fun e2 => ?_) (fun e2 => ?_)
        · exact ⟨_, rfl, _, rfl, _, rfl, rd_V_place T hva ⟨_, rfl, rd_V_travel T hva ⟨_, rfl, rd_V_a T hva ⟨_, rfl, rd_V_b T hva ⟨sz (by show 6 ≤ 1000000; decide), key _ _ (bit1 e1) (bit1 e2)⟩⟩⟩⟩⟩
        · exact ⟨_, rfl, _, rfl, _, rfl, rd_V_place T hva ⟨_, rfl, rd_V_travel T hva ⟨_, rfl, rd_V_a T hva ⟨_, rfl, rd_V_b T hva ⟨sz (by show 6 ≤ 1000000; decide), key _ _ (bit1 e1) (bit0 e2)⟩⟩⟩⟩⟩
      · refine ⟨_, rfl, rd_V_up T hva ⟨_, rfl, ?_⟩⟩
        refine ite_b (fun e2 => ?_) (fun e2 => ?_)
        · exact ⟨_, rfl, _, rfl, _, rfl, rd_V_place T hva ⟨_, rfl, rd_V_travel T hva ⟨_, rfl, rd_V_a T hva ⟨_, rfl, rd_V_b T hva ⟨sz (by show 6 ≤ 1000000; decide), key _ _ (bit0 e1) (bit1 e2)⟩⟩⟩⟩⟩
        · exact ⟨_, rfl, _, rfl, _, rfl, rd_V_place T hva ⟨_, rfl, rd_V_travel T hva ⟨_, rfl, rd_V_a T hva ⟨_, rfl, rd_V_b T hva ⟨sz (by show 6 ≤ 1000000; decide), key _ _ (bit0 e1) (bit0 e2)⟩⟩⟩⟩⟩
def sp_pump_state (t : Adr) : Sp := spC 19 1 t
theorem g_pump_state (T : Txt K mg t) : GFn P w K mg base 2 "pump_state" ["plant", "given"] (sp_pump_state t) := by
  refine T.f_pump_state.ok sc_pump_state bn_pump_state ?len ?body
  case len => exact spC_len
  case body =>
    intro f cdv A outer s' H vs Q E hr h
    obtain ⟨R, s, g, ns, rfl, h, wf, hg, hn, k⟩ := h
    obtain ⟨v, rfl⟩ := l1 hn
    refine ⟨_, (pss_cons (ps_set (i := 2) sc_pump_state.nd rfl (Or.inl rfl) (pe_ix ix_list (pv 1) pe_int (fun _ _ => rfl)))
      (pss_cons (ps_if (pt_not (pt_val (pe_me (pv 0) T.c_Plant (g_Plant_has_pump T) (hr.mono (by decide)) (pac (pv 2) pa_nil)))) (pss_one (ps_ret (pe_lst (pac (pe_gi rfl T.i_OUT_OF_RANGE) pa_nil)))) pss_nil)
      (pss_cons (ps_set (i := 3) sc_pump_state.nd rfl (Or.inl rfl) (pe_ix ix_list (pe_at (pv 0)) (pv 2) (fun _ _ => rfl)))
      (pss_one (ps_ret (pe_lst (pac (pe_at (pv 3)) (pac (pe_at (pv 3)) (pac (pe_at (pv 3)) (pac (pe_at (pv 3)) (pac (pe_at (pv 3)) (pac (pe_at (pv 3)) (pac (pe_at (pv 3)) pa_nil))))))))))))), ?_⟩
    refine ⟨_, rfl, ⟨_, _, _, _, rfl, rfl, SqL.of hg, rfl, ?_⟩⟩
    have hst := st_19 s v
    refine ⟨_, rfl, me_L h ⟨_, rfl, ⟨R, s, v, rfl, h, _, rfl, ?_⟩⟩⟩
    refine ite_b (fun e => ?_) (fun e => ?_)
    · exact ⟨one, fun p np => fin1 k h (hst.trans (wp_none (not_true' e) _)) (Same.refl H) np⟩
    · obtain ⟨i, x, rfl, hx, hw⟩ := wp_some (not_false' e)
      rw [hw] at hst
      obtain ⟨a, ha, hpa⟩ := h.ps.get hx
      refine ⟨_, rfl, rd_pumps T h ⟨_, rfl, ⟨_, _, _, _, rfl, rfl, SqL.of h.lu, at_of rfl (ref_at ha), ?_⟩⟩⟩
      exact ⟨_, rfl, rd_P_fault T hpa ⟨_, rfl, rd_P_target T hpa ⟨_, rfl, rd_P_speed T hpa ⟨_, rfl, rd_P_gathered T hpa ⟨_, rfl, rd_P_position T hpa ⟨_, rfl, rd_P_moved T hpa ⟨_, rfl, rd_P_bad T hpa ⟨sz (by show 7 ≤ 1000000; decide), fun p np => finN k h (Go.same (Same.refl H)) hst np⟩⟩⟩⟩⟩⟩⟩⟩
def sp_ahead (t : Adr) : Sp := spC 20 2 t
theorem g_ahead (T : Txt K mg t) : GFn P w K mg base 5 "ahead" ["plant", "given"] (sp_ahead t) := by
  refine T.f_ahead.ok sc_ahead bn_ahead ?len ?body
  case len => exact spC_len
  case body =>
    intro f cdv A outer s' H vs Q E hr h
    obtain ⟨R, s, g, ns, rfl, h, wf, hg, hn, k⟩ := h
    obtain ⟨v, x, rfl⟩ := l2 hn
    refine ⟨_, (pss_cons (ps_set (i := 2) sc_ahead.nd rfl (Or.inl rfl) (pe_ix ix_list (pv 1) pe_int (fun _ _ => rfl)))
      (pss_cons (ps_set (i := 3) sc_ahead.nd rfl (Or.inl rfl) (pe_ix ix_list (pv 1) pe_int (fun _ _ => rfl)))
      (pss_cons (ps_if (PW.pt (pw_or (pt_not (pt_val (pe_me (pv 0) T.c_Plant (g_Plant_has_pump T) (hr.mono (by decide)) (pac (pv 2) pa_nil)))) (pw_or1 (pt_not (pt_chain op_le op_le pe_int (pv 3) (pe_gi rfl T.i_MOST_AHEAD)))))) (pss_one (ps_ret (pe_lst (pac (pe_gi rfl T.i_OUT_OF_RANGE) pa_nil)))) pss_nil)
      (pss_one (ps_ret (pe_lst (pac pe_int (pac (pe_me (pe_ix ix_list (pe_at (pv 0)) (pv 2) (fun _ _ => rfl)) T.c_Pump (g_Pump_ahead T) (hr.mono (by decide)) (pac (pv 3) pa_nil)) pa_nil)))))))), ?_⟩
    refine ⟨_, rfl, ⟨_, _, _, _, rfl, rfl, SqL.of hg, rfl, ?_⟩⟩
    refine ⟨_, rfl, ⟨_, _, _, _, rfl, rfl, SqL.of hg, rfl, ?_⟩⟩
    have hst := st_20 s v x
    refine ⟨_, rfl, me_L h ⟨_, rfl, ⟨R, s, v, rfl, h, _, rfl, ?_⟩⟩⟩
    refine ite_b (fun e => ?_) (fun e => ?_)
    · exact ⟨one, fun p np => fin1 k h (hst.trans (wp_none (not_true' e) _)) (Same.refl H) np⟩
    · obtain ⟨i, pu, rfl, hx, hw⟩ := wp_some (not_false' e)
      rw [hw] at hst
      obtain ⟨a, ha, hpa⟩ := h.ps.get hx
      have wp := wf.pu pu (List.mem_of_getElem? hx)
      have bad : Vbdlad.within x 0 10000 = false → ∀ p, H p = none → Q (.ref p) (upd H p (.lst [.int (-1)])) := fun e p np => fin1 k h (by rw [hst, e]; rfl) (Same.refl H) np
      refine ⟨_, rfl, _, _, rfl, rfl, _, rfl, ?_⟩
      refine ite_b (fun e1 => ?_) (fun e1 => ?_)
      · refine ⟨_, _, rfl, rfl, _, rfl, ?_⟩
        refine ite_b (fun e2 => ?_) (fun e2 => ?_)
        · exact ⟨one, bad (by unfold Vbdlad.within; rw [e1, Bool.true_and]; exact not_true' e2)⟩
        · have e2 := not_false' e2
          have ew : Vbdlad.within x 0 10000 = true := by unfold Vbdlad.within; rw [e1, Bool.true_and]; exact e2
          have h1 := of_decide_eq_true e1
          have h2 := of_decide_eq_true e2
          obtain ⟨n, rfl⟩ : ∃ n : Nat, x = (n : Int) := ⟨x.toNat, by omega⟩
          rw [ew, if_neg (by simp), Int.toNat_natCast] at hst
          refine ⟨_, rfl, rd_pumps T h ⟨_, rfl, ⟨_, _, _, _, rfl, rfl, SqL.of h.lu, at_of rfl (ref_at ha), ?_⟩⟩⟩
          refine me_P hpa ⟨_, rfl, ⟨a, pu, n, rfl, hpa, by omega, fun H1 s1 => ⟨two, fun p np => ?_⟩⟩⟩
          have ez : (if pu.fault ≠ 0 then (0 : Int) else (Vbdlad.alone n pu).pos - pu.pos) = (Vbdlad.alone n pu).pos - pu.pos := by
            split
            · rename_i hf
              rw [alone_still wp hf]
              omega
            · rfl
          rw [ez]
          exact finN k (h.same s1) (Go.same s1) hst np
      · exact ⟨_, rfl, one, bad (by unfold Vbdlad.within; rw [e1]; rfl)⟩
theorem coil_at (z : Int) : atI [V.int 1, .int 3, .int 2, .int 6, .int 4, .int 12, .int 8, .int 9] (z % 8) = some (.int (Vbdlad.COILS.getD (z % 8).toNat 0 : Nat)) := by
  have h0 : 0 ≤ z % 8 := Int.emod_nonneg _ (by decide)
  have h1 : z % 8 < 8 := Int.emod_lt_of_pos _ (by decide)
  obtain ⟨j, hj⟩ : ∃ j : Nat, z % 8 = (j : Int) := ⟨(z % 8).toNat, by omega⟩
  rw [hj, Int.toNat_natCast]
  have hj8 : j < 8 := by omega
  match j, hj8 with
  | 0, _ => rfl
  | 1, _ => rfl
  | 2, _ => rfl
  | 3, _ => rfl
  | 4, _ => rfl
  | 5, _ => rfl
  | 6, _ => rfl
  | 7, _ => rfl
def sp_coils (t : Adr) : Sp := spC 21 1 t
theorem g_coils (T : Txt K mg t) : GFn P w K mg base 2 "coils" ["plant", "given"] (sp_coils t) := by
  refine T.f_coils.ok sc_coils bn_coils ?len ?body
  case len => exact spC_len
  case body =>
    intro f cdv A outer s' H vs Q E hr h
    obtain ⟨R, s, g, ns, rfl, h, wf, hg, hn, k⟩ := h
    obtain ⟨v, rfl⟩ := l1 hn
    refine ⟨_, (pss_cons (ps_set (i := 2) sc_coils.nd rfl (Or.inl rfl) (pe_ix ix_list (pv 1) pe_int (fun _ _ => rfl)))
      (pss_cons (ps_if (pt_not (pt_val (pe_me (pv 0) T.c_Plant (g_Plant_has_pump T) (hr.mono (by decide)) (pac (pv 2) pa_nil)))) (pss_one (ps_ret (pe_lst (pac (pe_gi rfl T.i_OUT_OF_RANGE) pa_nil)))) pss_nil)
      (pss_one (ps_ret (pe_lst (pac (pe_ix ix_tup (pe_gt rfl T.t_COILS) (pe_op op_mod (pe_at (pe_ix ix_list (pe_at (pv 0)) (pv 2) (fun _ _ => rfl))) (pe_blt call_ln rfl T.b_len PySem.boot_len (pac (pe_gt rfl T.t_COILS) pa_nil))) (fun _ _ => rfl)) pa_nil)))))), ?_⟩
    refine ⟨_, rfl, ⟨_, _, _, _, rfl, rfl, SqL.of hg, rfl, ?_⟩⟩
    have hst := st_21 s v
    refine ⟨_, rfl, me_L h ⟨_, rfl, ⟨R, s, v, rfl, h, _, rfl, ?_⟩⟩⟩
    refine ite_b (fun e => ?_) (fun e => ?_)
    · exact ⟨one, fun p np => fin1 k h (hst.trans (wp_none (not_true' e) _)) (Same.refl H) np⟩
    · obtain ⟨i, x, rfl, hx, hw⟩ := wp_some (not_false' e)
      rw [hw] at hst
      obtain ⟨a, ha, hpa⟩ := h.ps.get hx
      refine ⟨_, rfl, rd_pumps T h ⟨_, rfl, ⟨_, _, _, _, rfl, rfl, SqL.of h.lu, at_of rfl (ref_at ha), rd_P_position T hpa ⟨t.aC, 8, rfl, ⟨_, .inr (T.q_COILS H), rfl⟩, ⟨_, _, rfl, rfl, (by show (0 : Int) < 8; decide), ⟨_, _, _, _, rfl, rfl, T.q_COILS H, coil_at x.pos, one, fun p np => ?_⟩⟩⟩⟩⟩⟩
      exact fin1 k h hst (Same.refl H) np
def sp_ledger (t : Adr) : Sp := spC 22 0 t
theorem g_ledger (T : Txt K mg t) : GFn P w K mg base 2 "ledger" ["plant", "given"] (sp_ledger t) := by
  refine T.f_ledger.ok sc_ledger bn_ledger ?len ?body
  case len => exact spC_len
  case body =>
    intro f cdv A outer s' H vs Q E hr h
    obtain ⟨R, s, g, ns, rfl, h, wf, hg, hn, k⟩ := h
    cases l0 hn
    refine ⟨_, (pss_one (ps_ret (pe_fn (g_with_count T) (hr.mono (by decide)) rfl (pac (pe_me0 (pv 0) T.c_Plant (g_Plant_ledger T) (hr.mono (by decide))) pa_nil)))), ?_⟩
    have hst := st_22 s
    have hl : (((Vbdlad.numbers s).map fun x => Vbdlad.net s x).map V.int).length = s.nodes.length := by simp [Vbdlad.numbers]
    refine ⟨_, rfl, me_L h ⟨R, s, rfl, h, wf, fun H1 p s1 np hp => ⟨p, _, rfl, hp, by rw [hl]; exact Nat.le_trans wf.n24 (by decide), fun H2 q s2 nq hq => ?_⟩⟩⟩
    rw [hl] at hq
    exact finL k h hst (s1.trans s2) (s1.free nq) hq
def sp_tell_time (t : Adr) : Sp := spC 24 0 t
theorem g_tell_time (T : Txt K mg t) : GFn P w K mg base 1 "tell_time" ["plant", "given"] (sp_tell_time t) := by
  refine T.f_tell_time.ok sc_tell_time bn_tell_time ?len ?body
  case len => exact spC_len
  case body =>
    intro f cdv A outer s' H vs Q E hr h
    obtain ⟨R, s, g, ns, rfl, h, wf, hg, hn, k⟩ := h
    cases l0 hn
    refine ⟨_, (pss_one (ps_ret (pe_lst (pac (pe_at (pv 0)) pa_nil)))), ?_⟩
    exact ⟨_, rfl, rd_clock T h ⟨one, fun p np => fin1 k h (st_24 s) (Same.refl H) np⟩⟩
def sp_forbidden (t : Adr) : Sp := spC 25 0 t
theorem g_forbidden (T : Txt K mg t) : GFn P w K mg base 2 "forbidden" ["plant", "given"] (sp_forbidden t) := by
  refine T.f_forbidden.ok sc_forbidden bn_forbidden ?len ?body
  case len => exact spC_len
  case body =>
    intro f cdv A outer s' H vs Q E hr h
    obtain ⟨R, s, g, ns, rfl, h, wf, hg, hn, k⟩ := h
    cases l0 hn
    refine ⟨_, (pss_one (ps_ret (pe_fn (g_with_count_of_pairs T) (hr.mono (by decide)) rfl (pac (pe_at (pe_at (pv 0))) pa_nil)))), ?_⟩
    exact ⟨_, rfl, rd_net T h (rd_forbidden T h ⟨R.lo, R.fo, _, rfl, h.lo, h.fo, Nat.le_trans wf.foL (by decide), fun H2 q s2 nq hq => finL k h (st_25 s) s2 nq hq⟩)⟩
end
end Pn

set_option Elab.async false
set_option linter.all false
set_option maxRecDepth 100000
set_option maxHeartbeats 2000000
namespace Pn
open PySem PySem.Spec PyProof.Rows L2
section
variable {P : Program} {w : World} {K : PySem.W.Frag} {mg : Str → Option Value} {base : Heap} {t : Adr}
/-- some are done, those before j in any case -/
structure Some2 {α : Type} (f : α → α) (l l' : List α) (as : List Addr) (us : List Addr) : Prop where
  len : l'.length = l.length
  or_ : ∀ (i : Nat) v, l[i]? = some v → l'[i]? = some v ∨ l'[i]? = some (f v)
  done : ∀ (i : Nat) (a : Addr) v, as[i]? = some a → a ∈ us → l[i]? = some v → l'[i]? = some (f v)
theorem Some2.start {α : Type} {f : α → α} {l : List α} {as : List Addr} : Some2 f l l as [] := ⟨rfl, fun i v h => .inl h, fun i a v _ m => by cases m⟩
theorem Some2.step {α : Type} {f : α → α} (ff : ∀ x, f (f x) = f x) {l l' : List α} {as us : List Addr} (nd : as.Nodup) (h : Some2 f l l' as us) {i : Nat} {a : Addr} {v : α} (ha : as[i]? = some a) (hv : l'[i]? = some v) : Some2 f l (l'.set i (f v)) as (us ++ [a]) := by
  have hi : i < l'.length := (List.getElem?_eq_some_iff.mp hv).1
  have at_i : ∀ u, l[i]? = some u → f v = f u := fun u hu => by
    rcases h.or_ i u hu with q | q
    · rw [hv] at q; cases q; rfl
    · rw [hv] at q; cases q; exact ff u
  refine ⟨by rw [List.length_set]; exact h.len, fun j u hu => ?_, fun j b u hb hm hu => ?_⟩
  · by_cases e : j = i
    · subst e
      rw [List.getElem?_set_self hi, at_i u hu]
      exact .inr rfl
    · rw [List.getElem?_set_ne (fun q => e q.symm)]
      exact h.or_ j u hu
  · by_cases e : j = i
    · subst e
      rw [List.getElem?_set_self hi, at_i u hu]
    · rw [List.getElem?_set_ne (fun q => e q.symm)]
      rcases List.mem_append.mp hm with m | m
      · exact h.done j b u hb m hu
      · rw [List.mem_singleton.mp m] at hb
        exact absurd (nd_ix nd hb ha) e
theorem Some2.fin {α : Type} {f : α → α} {l l' : List α} {as us : List Addr} (h : Some2 f l l' as us) (hl : as.length = l.length) (all : ∀ (i : Nat) (a : Addr) v, as[i]? = some a → l[i]? = some v → a ∈ us ∨ f v = v) : l' = l.map f := by
  apply List.ext_getElem?
  intro i
  rw [List.getElem?_map]
  cases e : l[i]? with
  | none =>
    rw [List.getElem?_eq_none_iff] at e
    rw [List.getElem?_eq_none (by rw [h.len]; exact e)]
    rfl
  | some v =>
    have hi : i < as.length := by rw [hl]; exact (List.getElem?_eq_some_iff.mp e).1
    show l'[i]? = some (f v)
    rcases all i as[i] v (List.getElem?_eq_getElem hi) e with m | m
    · exact h.done i _ v (List.getElem?_eq_getElem hi) m e
    · rcases h.or_ i v e with q | q
      · rw [q, m]
      · exact q
/-- the addresses of those that are so -/
structure Picked {α : Type} (q : α → Bool) (l : List α) (as us : List Addr) (j : Nat) : Prop where
  len : us.length = ((l.take j).filter q).length
  sub : ∀ a, a ∈ us → a ∈ as
  all : ∀ (i : Nat) (a : Addr) v, i < j → as[i]? = some a → l[i]? = some v → q v = true → a ∈ us
theorem Picked.start {α : Type} {q : α → Bool} {l : List α} {as : List Addr} : Picked q l as [] 0 := ⟨rfl, fun a m => (by cases m), fun i a v h => absurd h (Nat.not_lt_zero _)⟩
theorem Picked.yes {α : Type} {q : α → Bool} {l : List α} {as us : List Addr} {j : Nat} (h : Picked q l as us j) {a : Addr} {v : α} (ha : as[j]? = some a) (hv : l[j]? = some v) (e : q v = true) : Picked q l as (us ++ [a]) (j + 1) := by
  refine ⟨by rw [take_snoc hv, List.filter_append, List.length_append, List.length_append, h.len, List.filter_cons, if_pos e]; rfl, fun b m => ?_, fun i b u hi hb hu qu => ?_⟩
  · rcases List.mem_append.mp m with m | m
    · exact h.sub b m
    · rw [List.mem_singleton.mp m]
      exact List.mem_of_getElem? ha
  · by_cases e2 : i = j
    · subst e2
      rw [ha] at hb
      cases hb
      exact List.mem_append_right _ (List.mem_singleton.mpr rfl)
    · exact List.mem_append_left _ (h.all i b u (by omega) hb hu qu)
theorem Picked.no {α : Type} {q : α → Bool} {l : List α} {as us : List Addr} {j : Nat} (h : Picked q l as us j) {v : α} (hv : l[j]? = some v) (e : q v = false) : Picked q l as us (j + 1) := by
  refine ⟨by rw [take_snoc hv, List.filter_append, List.filter_cons, if_neg (by rw [e]; exact Bool.false_ne_true), List.filter_nil, List.append_nil]; exact h.len, h.sub, fun i b u hi hb hu qu => ?_⟩
  by_cases e2 : i = j
  · subst e2
    rw [hv] at hu
    cases hu
    rw [e] at qu
    cases qu
  · exact h.all i b u (by omega) hb hu qu
theorem Picked.le {α : Type} {q : α → Bool} {l : List α} {as us : List Addr} {j : Nat} (h : Picked q l as us j) : us.length ≤ l.length := by
  rw [h.len]
  refine Nat.le_trans (List.length_filter_le _ _) ?_
  rw [List.length_take]
  omega
def dnV (v : Va) : Va := { v with up := false }
def sp_shut_all (t : Adr) : Sp := spC 8 0 t
theorem g_shut_all (T : Txt K mg t) : GFn P w K mg base 1 "shut_all" ["plant", "given"] (sp_shut_all t) := by
  refine T.f_shut_all.ok sc_shut_all bn_shut_all ?len ?body
  case len => exact spC_len
  case body =>
    intro f cdv A outer s' H vs Q E hr h
    obtain ⟨R, s, g, ns, rfl, h, wf, hg, hn, k⟩ := h
    cases l0 hn
    refine ⟨_, (pss_cons (ps_setLc (i := 2) rfl sc_shut_all.nd rfl rfl (sw_true rfl rfl rfl rfl) (pi_list (pe_at (pe_at (pv 0)))) (blkOk_by (N := ["plant", "given", "were_up", "each"]) (sc := defScope s_shut_all) (own := [("each", 3)]) (by decide +kernel)) (fun _ _ _ _ _ => (pg_name (i := 3) sc_shut_all.nd rfl (Or.inl rfl))) (fun _ _ _ _ _ => (pts_one (pt_val (pe_atK K (pv 3))))) (fun _ _ _ _ _ => (pv 3)))
      (pss_cons (ps_for PassesOwn.never rfl (pi_list (pv 2)) (pg_name (i := 3) sc_shut_all.nd rfl (Or.inl rfl)) (pss_one (ps_fld (pv 3) pe_bl rfl)))
      (pss_one (ps_ret (pe_lst (pac (pe_blt call_ln rfl T.b_len PySem.boot_len (pac (pv 2) pa_nil)) pa_nil)))))), ?_⟩
    have hst := st_8 s
    refine ⟨_, rfl, rd_net T h (rd_valves T h ⟨R.lv, rfl, ⟨_, SqL.of h.lv⟩, fun D nD => ?_⟩)⟩
    refine lc_list (K := K) (a := R.lv) (xs := R.vs.map V.ref) (fun j H2 => Same H H2 ∧ ∃ us, H2 D = some (rL us) ∧ Picked (fun v : Va => v.up) s.valves R.vs us j) ⟨Same.new nD, [], upd_same, Picked.start⟩ (fun j H2 _ ⟨s2, _⟩ => SqL.of (s2 _ _ h.lv)) ?_ ?_
    · rintro j y H2 hj ⟨s2, us, hD, hp⟩
      obtain ⟨a, ha, rfl⟩ := map_at hj
      obtain ⟨v, hv, hva⟩ := h.vs.at_ j a ha
      have hva2 : VaAt t H2 a v := hva.same fun o e => s2 _ _ e
      refine ⟨rfl, ⟨_, rfl, rd_V_up T hva2 ⟨_, rfl, ?_⟩⟩⟩
      refine ite_b (fun e => ?_) (fun e => ?_)
      · refine ⟨_, rfl, _, hD, szl (by rw [List.length_map]; have := hp.le; have := wf.vaL; omega), fun b o e => ?_, us ++ [a], ?_, hp.yes ha hv e⟩
        · rw [upd_ne (ne_of_none e nD)]
          exact s2 b o e
        · rw [upd_same]
          simp [rL]
      · exact ⟨s2, us, hD, hp.no hv e⟩
    · rintro H2 ⟨s2, us, hD, hp⟩
      rw [List.length_map, h.vs.len] at hp
      have hR2 := h.same s2
      refine ⟨_, rfl, D, rfl, ⟨_, SqL.of hD⟩, for_list (K := K) (a := D) (xs := us.map V.ref) (fun j σ H' => (∃ v, σ = [some (.ref R.pl), some (.ref g), some (.ref D), v]) ∧ (∃ l', Rep t R { s with valves := l' } H' ∧ Some2 dnV s.valves l' R.vs (us.take j)) ∧ H' D = some (rL us) ∧ ∀ b o, H2 b = some o → b ∉ R.vs → H' b = some o)
        ⟨⟨_, rfl⟩, ⟨s.valves, hR2, Some2.start⟩, hD, fun b o e _ => e⟩ (fun j σ H' _ ⟨_, _, e, _⟩ => SqL.of e) ?_ ?_⟩
      · rintro j y σ H' hj ⟨⟨v0, rfl⟩, ⟨l', hR', h2'⟩, hD', kp⟩
        obtain ⟨a, ha, rfl⟩ := map_at hj
        have ham := hp.sub a (List.mem_of_getElem? ha)
        obtain ⟨i, hi⟩ := List.getElem?_of_mem ham
        obtain ⟨v, hv, hva⟩ := hR'.vs.at_ i a hi
        have hv : l'[i]? = some v := hv
        refine ⟨_, rfl, st_V T hva T.n_Valve_up (v' := dnV v) rfl fun H3 h3 b3 => ?_⟩
        have hDa : D ≠ a := fun q => by
          obtain ⟨dx, hva⟩ := hva
          rw [← q, hD'] at hva
          cases hva
        refine ⟨⟨_, rfl⟩, ⟨l'.set i (dnV v), hR'.setValve hi h3 b3, ?_⟩, b3 _ _ hD' hDa, fun b o e n => b3 _ _ (kp b o e n) fun q => n (by rw [q]; exact ham)⟩
        rw [take_snoc ha]
        exact Some2.step (f := dnV) (fun x => rfl) h.vn h2' hi hv
      · rintro σ H' ⟨⟨v0, rfl⟩, ⟨l', hR', h2'⟩, hD', kp⟩
        rw [List.length_map, List.take_length] at h2'
        have el : l' = s.valves.map dnV := h2'.fin h.vs.len fun i a v hi hv => by
          cases hu : v.up with
          | true => exact .inl (hp.all i a v (List.getElem?_eq_some_iff.mp hv).1 hi hv hu)
          | false =>
            refine .inr ?_
            obtain ⟨a, b, c, d, e⟩ := v
            simp only at hu
            subst hu
            rfl
        subst el
        have hlen := hp.len
        rw [List.take_length] at hlen
        refine ⟨_, rfl, _, us.length, rfl, LenIs.of hD' (by simp), one, fun p np => ?_⟩
        refine fin2 k hR' ⟨rfl, fun b o e n => kp b o (s2 _ _ e) fun q => n (.inr (.inr (.inr (.inr (.inr (.inr (.inl q))))))), fun _ h => .inl h, sub_refl⟩ ?_ np
        rw [hst, hlen]
        rfl
def stP (v : Pu) : Pu := { v with target := 0 }
def sp_stop_all (t : Adr) : Sp := spC 23 0 t
theorem g_stop_all (T : Txt K mg t) : GFn P w K mg base 1 "stop_all" ["plant", "given"] (sp_stop_all t) := by
  refine T.f_stop_all.ok sc_stop_all bn_stop_all ?len ?body
  case len => exact spC_len
  case body =>
    intro f cdv A outer s' H vs Q E hr h
    obtain ⟨R, s, g, ns, rfl, h, wf, hg, hn, k⟩ := h
    cases l0 hn
    refine ⟨_, (pss_cons (ps_setLc (i := 2) rfl sc_stop_all.nd rfl rfl (sw_true rfl rfl rfl rfl) (pi_list (pe_at (pv 0))) (blkOk_by (N := ["plant", "given", "driven", "each"]) (sc := defScope s_stop_all) (own := [("each", 3)]) (by decide +kernel)) (fun _ _ _ _ _ => (pg_name (i := 3) sc_stop_all.nd rfl (Or.inl rfl))) (fun _ _ _ _ _ => (pts_one (pt_cmpR op_ne (pe_atK K (pv 3)) pe_int (nomark _)))) (fun _ _ _ _ _ => (pv 3)))
      (pss_cons (ps_for PassesOwn.never rfl (pi_list (pv 2)) (pg_name (i := 3) sc_stop_all.nd rfl (Or.inl rfl)) (pss_one (ps_fld (pv 3) pe_int rfl)))
      (pss_one (ps_ret (pe_lst (pac (pe_blt call_ln rfl T.b_len PySem.boot_len (pac (pv 2) pa_nil)) pa_nil)))))), ?_⟩
    have hst := st_23 s
    refine ⟨_, rfl, rd_pumps T h ⟨R.lu, rfl, ⟨_, SqL.of h.lu⟩, fun D nD => ?_⟩⟩
    refine lc_list (K := K) (a := R.lu) (xs := R.ps.map V.ref) (fun j H2 => Same H H2 ∧ ∃ us, H2 D = some (rL us) ∧ Picked (fun v : Pu => v.target != 0) s.pumps R.ps us j) ⟨Same.new nD, [], upd_same, Picked.start⟩ (fun j H2 _ ⟨s2, _⟩ => SqL.of (s2 _ _ h.lu)) ?_ ?_
    · rintro j y H2 hj ⟨s2, us, hD, hp⟩
      obtain ⟨a, ha, rfl⟩ := map_at hj
      obtain ⟨v, hv, hva⟩ := h.ps.at_ j a ha
      have hva2 : PuAt t H2 a v := hva.same fun o e => s2 _ _ e
      refine ⟨rfl, ⟨_, rfl, rd_P_target T hva2 ⟨rfl, _, rfl, ?_⟩⟩⟩
      rw [vint]
      refine ite_b (fun e => ?_) (fun e => ?_)
      · refine ⟨_, rfl, _, hD, szl (by rw [List.length_map]; have := hp.le; have := wf.puL; omega), fun b o e => ?_, us ++ [a], ?_, hp.yes ha hv (by simpa using e)⟩
        · rw [upd_ne (ne_of_none e nD)]
          exact s2 b o e
        · rw [upd_same]
          simp [rL]
      · exact ⟨s2, us, hD, hp.no hv (by simpa using e)⟩
    · rintro H2 ⟨s2, us, hD, hp⟩
      rw [List.length_map, h.ps.len] at hp
      have hR2 := h.same s2
      refine ⟨_, rfl, D, rfl, ⟨_, SqL.of hD⟩, for_list (K := K) (a := D) (xs := us.map V.ref) (fun j σ H' => (∃ v, σ = [some (.ref R.pl), some (.ref g), some (.ref D), v]) ∧ (∃ l', Rep t R { s with pumps := l' } H' ∧ Some2 stP s.pumps l' R.ps (us.take j)) ∧ H' D = some (rL us) ∧ ∀ b o, H2 b = some o → b ∉ R.ps → H' b = some o)
        ⟨⟨_, rfl⟩, ⟨s.pumps, hR2, Some2.start⟩, hD, fun b o e _ => e⟩ (fun j σ H' _ ⟨_, _, e, _⟩ => SqL.of e) ?_ ?_⟩
      · rintro j y σ H' hj ⟨⟨v0, rfl⟩, ⟨l', hR', h2'⟩, hD', kp⟩
        obtain ⟨a, ha, rfl⟩ := map_at hj
        have ham := hp.sub a (List.mem_of_getElem? ha)
        obtain ⟨i, hi⟩ := List.getElem?_of_mem ham
        obtain ⟨v, hv, hva⟩ := hR'.ps.at_ i a hi
        have hv : l'[i]? = some v := hv
        refine ⟨_, rfl, st_P T hva T.n_Pump_target (v' := stP v) rfl fun H3 h3 b3 => ?_⟩
        have hDa : D ≠ a := fun q => by
          obtain ⟨dx, hva⟩ := hva
          rw [← q, hD'] at hva
          cases hva
        refine ⟨⟨_, rfl⟩, ⟨l'.set i (stP v), hR'.setPump hi h3 b3, ?_⟩, b3 _ _ hD' hDa, fun b o e n => b3 _ _ (kp b o e n) fun q => n (by rw [q]; exact ham)⟩
        rw [take_snoc ha]
        exact Some2.step (f := stP) (fun x => rfl) h.pn h2' hi hv
      · rintro σ H' ⟨⟨v0, rfl⟩, ⟨l', hR', h2'⟩, hD', kp⟩
        rw [List.length_map, List.take_length] at h2'
        have el : l' = s.pumps.map stP := h2'.fin h.ps.len fun i a v hi hv => by
          by_cases hu : v.target = 0
          · refine .inr ?_
            unfold stP
            rw [← hu]
          · exact .inl (hp.all i a v (List.getElem?_eq_some_iff.mp hv).1 hi hv (by simpa using hu))
        subst el
        have hlen := hp.len
        rw [List.take_length] at hlen
        refine ⟨_, rfl, _, us.length, rfl, LenIs.of hD' (by simp), one, fun p np => ?_⟩
        refine fin2 k hR' ⟨rfl, fun b o e n => kp b o (s2 _ _ e) fun q => n (.inr (.inr (.inr (.inr (.inr (.inr (.inr q))))))), fun _ h => .inl h, sub_refl⟩ ?_ np
        rw [hst, hlen]
        rfl
end
end Pn

set_option Elab.async false
set_option linter.all false
set_option maxRecDepth 100000
set_option maxHeartbeats 2000000
namespace Pn
open PySem PySem.Spec PyProof.Rows L2
section
variable {P : Program} {w : World} {K : PySem.W.Frag} {mg : Str → Option Value} {base : Heap} {t : Adr}
theorem l7 {ns : List Int} (h : ns.length = 7) : ∃ a b d k l e o, ns = [a, b, d, k, l, e, o] := by match ns, h with | [a, b, d, k, l, e, o], _ => exact ⟨a, b, d, k, l, e, o, rfl⟩
def okP (d k l e o : Int) : Nat → Bool
  | 0 => Vbdlad.within d 1 1000000
  | 1 => Vbdlad.within k 1 1000000
  | 2 => Vbdlad.within l 1 1000000
  | 3 => Vbdlad.within e 1 64
  | _ => Vbdlad.within o 0 1000
theorem okP_bad {d k l e o : Int} {i : Nat} (h : okP d k l e o i = false) (x y : Bool) : (x || (y || (!Vbdlad.within d 1 1000000 || (!Vbdlad.within k 1 1000000 || (!Vbdlad.within l 1 1000000 || (!Vbdlad.within e 1 64 || !Vbdlad.within o 0 1000)))))) = true := by
  match i, h with
  | 0, h => rw [show Vbdlad.within d 1 1000000 = false from h]; simp
  | 1, h => rw [show Vbdlad.within k 1 1000000 = false from h]; simp
  | 2, h => rw [show Vbdlad.within l 1 1000000 = false from h]; simp
  | 3, h => rw [show Vbdlad.within e 1 64 = false from h]; simp
  | i + 4, h => rw [show Vbdlad.within o 0 1000 = false from h]; simp
theorem w_nat {x lo hi : Int} (h : Vbdlad.within x lo hi = true) (h0 : 0 ≤ lo) : ∃ n : Nat, x = (n : Int) := ⟨x.toNat, by have := within_iff.mp h; omega⟩
def sp_pump (t : Adr) : Sp := spC 5 7 t
theorem g_pump (T : Txt K mg t) : GFn P w K mg base 4 "pump" ["plant", "given"] (sp_pump t) := by
  refine T.f_pump.ok sc_pump bn_pump ?len ?body
  case len => exact spC_len
  case body =>
    intro f cdv A outer s' H vs Q E hr h
    obtain ⟨R, s, g, ns, rfl, h, wf, hg, hn, k⟩ := h
    obtain ⟨a, b, d, kk, l, e, o, rfl⟩ := l7 hn
    refine ⟨_, (pss_cons (ps_set (i := 2) sc_pump.nd rfl (Or.inl rfl) (pe_ix ix_list (pv 1) pe_int (fun _ _ => rfl)))
      (pss_cons (ps_set (i := 3) sc_pump.nd rfl (Or.inl rfl) (pe_ix ix_list (pv 1) pe_int (fun _ _ => rfl)))
      (pss_cons (ps_set (i := 4) sc_pump.nd rfl (Or.inl rfl) (pe_slice sl_list (pv 1) (po_some pe_int) po_none))
      (pss_cons (ps_set (i := 5) sc_pump.nd rfl (Or.inl rfl) (pe_blt call_ln rfl T.b_len PySem.boot_len (pac (pe_at (pv 0)) pa_nil)))
      (pss_cons (ps_for PassesOwn.never rfl (pi_zipT rfl T.b_zip (pac (pv 4) (pac (pe_gt rfl T.t_PUMP_RANGES) pa_nil))) (pg_tup rfl (pgs_cons (pg_name (i := 6) sc_pump.nd rfl (Or.inl rfl)) (pgs_cons (pg_name (i := 7) sc_pump.nd rfl (Or.inl rfl)) pgs_nil))) (pss_one (ps_if (pt_not (pt_chain op_le op_le (pe_ix ix_tup (pv 7) pe_int (fun _ _ => rfl)) (pv 6) (pe_ix ix_tup (pv 7) pe_int (fun _ _ => rfl)))) (pss_one (ps_ret (pe_lst (pac (pe_gi rfl T.i_OUT_OF_RANGE) pa_nil)))) pss_nil)))
      (pss_cons (ps_set (i := 8) sc_pump.nd rfl (Or.inl rfl) (pe_fn (g_new_link_refusal T) (hr.mono (by decide)) rfl (pac (pv 0) (pac (pv 2) (pac (pv 3) (pac (pv 5) (pac (pe_gi rfl T.i_MOST_PUMPS) pa_nil)))))))
      (pss_cons (ps_if (pt_cmpR op_ne (pv 8) pe_int (nomark _)) (pss_one (ps_ret (pe_lst (pac (pv 8) pa_nil)))) pss_nil)
      (pss_cons (ps_expr (pe_me (pv 0) T.c_Plant (g_Plant_add_pump T) (hr.mono (by decide)) (pac (pv 2) (pac (pv 3) (pac (pv 4) pa_nil)))))
      (pss_one (ps_ret (pe_lst (pac (pv 5) pa_nil)))))))))))), ?_⟩
    refine ⟨_, rfl, ⟨_, _, _, _, rfl, rfl, SqL.of hg, rfl, ?_⟩⟩
    refine ⟨_, rfl, ⟨_, _, _, _, rfl, rfl, SqL.of hg, rfl, ?_⟩⟩
    refine ⟨_, rfl, 2, rfl, g, _, rfl, SqL.of hg, fun sl nsl => ?_⟩
    have ecut : (HO.lst (cutV ([a, b, d, kk, l, e, o].map V.int) (some 2) none)) = iL [d, kk, l, e, o] := rfl
    rw [ecut]
    have s1 : Same H (upd H sl (iL [d, kk, l, e, o])) := Same.new nsl
    have hR1 := h.same s1
    have hsl : upd H sl (iL [d, kk, l, e, o]) sl = some (iL [d, kk, l, e, o]) := upd_same
    generalize upd H sl (iL [d, kk, l, e, o]) = H1 at s1 hR1 hsl ⊢
    refine ⟨_, rfl, rd_pumps T hR1 ⟨_, s.pumps.length, rfl, LenIs.of hR1.lu (by rw [List.length_map]; exact h.ps.len), ?_⟩⟩
    obtain ⟨r0, r1, r2, r3, r4, hq, q0, q1, q2, q3, q4⟩ := T.q_RANGES
    have hst := st_5 s a b d kk l e o
    have each : ∀ (i : Nat) x y, ([d, kk, l, e, o].map V.int)[i]? = some x → [V.ref r0, .ref r1, .ref r2, .ref r3, .ref r4][i]? = some y → ∃ z lo hi r, x = .int z ∧ y = .ref r ∧ (∀ H, SqT K H r [.int lo, .int hi]) ∧ okP d kk l e o i = Vbdlad.within z lo hi := fun i x y hx hy => by
      match i, hx, hy with
      | 0, hx, hy => cases hx; cases hy; exact ⟨_, _, _, _, rfl, rfl, q0, rfl⟩
      | 1, hx, hy => cases hx; cases hy; exact ⟨_, _, _, _, rfl, rfl, q1, rfl⟩
      | 2, hx, hy => cases hx; cases hy; exact ⟨_, _, _, _, rfl, rfl, q2, rfl⟩
      | 3, hx, hy => cases hx; cases hy; exact ⟨_, _, _, _, rfl, rfl, q3, rfl⟩
      | 4, hx, hy => cases hx; cases hy; exact ⟨_, _, _, _, rfl, rfl, q4, rfl⟩
      | i + 5, hx, hy => simp at hx
    refine ⟨_, rfl, ⟨sl, t.aR, _, _, rfl, SqL.of hsl, hq _, ?_⟩⟩
    refine for_zipT (K := K) (a := sl) (b := t.aR) (xs := [d, kk, l, e, o].map V.int) (ys := [V.ref r0, .ref r1, .ref r2, .ref r3, .ref r4]) (fun i σ H' => (∃ x y, σ = [some (.ref R.pl), some (.ref g), some (.int a), some (.int b), some (.ref sl), some (.int s.pumps.length), x, y, none]) ∧ Same H1 H' ∧ ∀ j, j < i → okP d kk l e o j = true)
      ⟨⟨_, _, rfl⟩, Same.refl H1, fun j hj => absurd hj (Nat.not_lt_zero _)⟩ rfl (fun i σ H' ⟨_, s2, _⟩ => ⟨SqL.of (s2 _ _ hsl), hq _⟩) ?_ ?_
    · rintro i x y Tt σ H' hx hy nT ⟨⟨x0, y0, rfl⟩, s2, hok⟩
      obtain ⟨z, lo, hi, r, rfl, rfl, hr2, eok⟩ := each i x y hx hy
      have s3 : Same H' (upd H' Tt (.tup [.int z, .ref r])) := Same.new nT
      have s03 := (s1.trans s2).trans s3
      refine ⟨Tt, _, rfl, SqT.of upd_same, rfl, _, _, rfl, _, _, rfl, rfl, ?_⟩
      have bad : Vbdlad.within z lo hi = false → ∀ p, upd H' Tt (.tup [.int z, .ref r]) p = none → Q (.ref p) (upd (upd H' Tt (.tup [.int z, .ref r])) p (.lst [.int (-1)])) := fun ew p np => fin1 k h (by rw [hst, okP_bad (eok.trans ew)]; rfl) s03 np
      refine ⟨_, rfl, ⟨_, _, _, _, rfl, rfl, hr2 _, rfl, _, rfl, _, _, rfl, rfl, _, rfl, ?_⟩⟩
      refine ite_b (fun e1 => ?_) (fun e1 => ?_)
      · refine ⟨_, rfl, ⟨_, _, _, _, rfl, rfl, hr2 _, rfl, _, _, rfl, rfl, _, rfl, ?_⟩⟩
        refine ite_b (fun e2 => ?_) (fun e2 => ?_)
        · exact ⟨one, bad (by unfold Vbdlad.within; rw [e1, Bool.true_and]; exact not_true' e2)⟩
        · have ew : Vbdlad.within z lo hi = true := by unfold Vbdlad.within; rw [e1, Bool.true_and]; exact not_false' e2
          refine ⟨⟨_, _, rfl⟩, s2.trans s3, fun j hj => ?_⟩
          by_cases ej : j = i
          · rw [ej, eok, ew]
          · exact hok j (by omega)
      · exact ⟨_, rfl, one, bad (by unfold Vbdlad.within; rw [e1]; rfl)⟩
    · rintro σ H' ⟨⟨x0, y0, rfl⟩, s2, hok⟩
      have w0 : Vbdlad.within d 1 1000000 = true := hok 0 (by show 0 < 5; decide)
      have w1 : Vbdlad.within kk 1 1000000 = true := hok 1 (by show 1 < 5; decide)
      have w2 : Vbdlad.within l 1 1000000 = true := hok 2 (by show 2 < 5; decide)
      have w3 : Vbdlad.within e 1 64 = true := hok 3 (by show 3 < 5; decide)
      have w4 : Vbdlad.within o 0 1000 = true := hok 4 (by show 4 < 5; decide)
      rw [w0, w1, w2, w3, w4] at hst
      simp only [Bool.not_true, Bool.or_false] at hst
      rw [show Vbdlad.PUMPS = 8 from rfl, lref_eq] at hst
      have s02 := s1.trans s2
      have hR2 := h.same s02
      refine ⟨_, rfl, _, rfl, _, rfl, _, rfl, ⟨R, s, a, b, s.pumps.length, 8, rfl, hR2, ?_⟩⟩
      refine ⟨_, rfl, rfl, _, rfl, ?_⟩
      rw [vint]
      refine ite_b (fun e => ?_) (fun e => ?_)
      · have e : ¬ lref s a b s.pumps.length 8 = 0 := by simpa using e
        exact ⟨_, rfl, one, fun p np => fin1 k h (by rw [hst]; exact if_neg e) s02 np⟩
      · have e : lref s a b s.pumps.length 8 = 0 := by simpa using e
        obtain ⟨e3, e4, e5⟩ := lref_zero (M := 8) e
        obtain ⟨na, rfl, ha⟩ := isNode_nat e3
        obtain ⟨nb, rfl, hb⟩ := isNode_nat e4
        obtain ⟨nd, rfl⟩ := w_nat w0 (by decide)
        obtain ⟨nk, rfl⟩ := w_nat w1 (by decide)
        obtain ⟨nl, rfl⟩ := w_nat w2 (by decide)
        obtain ⟨ne, rfl⟩ := w_nat w3 (by decide)
        obtain ⟨no, rfl⟩ := w_nat w4 (by decide)
        rw [show ((8 : Nat) : Int) = 8 from rfl, if_pos e] at hst
        simp only [Int.toNat_natCast] at hst
        refine ⟨_, rfl, me_L hR2 ⟨_, rfl, _, rfl, _, rfl, ⟨R, s, na, nb, nd, nk, nl, ne, no, sl, rfl, hR2, s2 _ _ hsl, e5, fun H3 x nx hR3 kp => ?_⟩⟩⟩
        have nx0 : H x = none := s02.free nx
        refine ⟨_, rfl, one, fun p np => fin2 k hR3 ⟨rfl, fun c o e n => kp c o (s02 _ _ e) fun z => n (.inr (.inr (.inr (.inr (.inr (.inl z)))))), fun c hc => ?_, fun c hc => ?_⟩ hst np⟩
        · rcases hc with q | q | q | q | q | q | q | q
          · exact .inl (.inl q)
          · exact .inl (.inr (.inl q))
          · exact .inl (.inr (.inr (.inl q)))
          · exact .inl (.inr (.inr (.inr (.inl q))))
          · exact .inl (.inr (.inr (.inr (.inr (.inl q)))))
          · exact .inl (.inr (.inr (.inr (.inr (.inr (.inl q))))))
          · exact .inl (.inr (.inr (.inr (.inr (.inr (.inr (.inl q)))))))
          · rcases List.mem_append.mp q with q | q
            · exact .inl (.inr (.inr (.inr (.inr (.inr (.inr (.inr q)))))))
            · rw [List.mem_singleton.mp q]
              exact .inr nx0
        · rcases hc with q | q | q | q | q | q | q | q
          · exact .inl q
          · exact .inr (.inl q)
          · exact .inr (.inr (.inl q))
          · exact .inr (.inr (.inr (.inl q)))
          · exact .inr (.inr (.inr (.inr (.inl q))))
          · exact .inr (.inr (.inr (.inr (.inr (.inl q)))))
          · exact .inr (.inr (.inr (.inr (.inr (.inr (.inl q))))))
          · exact .inr (.inr (.inr (.inr (.inr (.inr (.inr (List.mem_append_left _ q)))))))
end
end Pn

set_option Elab.async false
set_option linter.all false
set_option maxRecDepth 100000
set_option maxHeartbeats 2000000
namespace Pn
open PySem PySem.Spec PyProof.Rows L2
section
variable {P : Program} {w : World} {K : PySem.W.Frag} {mg : Str → Option Value} {base : Heap} {t : Adr}
/-- how many numbers the call of a place takes -/
def WD : List Nat := [1, 2, 3, 2, 2, 7, 1, 1, 0, 2, 1, 2, 1, 2, 0, 2, 1, 0, 1, 1, 2, 1, 0, 0, 0, 0]
theorem ref_of {mg : Str → Option Value} {x : Str} {f k : Addr} (a : mg x = some (.ref f)) (b : mg x = some (.ref k)) : k = f := by
  rw [a] at b
  injection b with b
  injection b with b
  exact b.symm
theorem call_of (T : Txt K mg t) {c ar : Nat} (h : WD[c]? = some ar) : ∃ (xs : List V) (f : Addr) (fd : FuncData) (k : Nat), (∀ H, SqT K H t.aK xs) ∧ xs[c]? = some (.ref f) ∧ FnOk P w K mg base CX0 k f fd ["plant", "given"] (spC c ar t) ∧ PySem.W.keepIn K (.ref f) = true ∧ Binds K fd ["plant", "given"] [] ∧ k ≤ 6 := by
  obtain ⟨k0, k1, k2, k3, k4, k5, k6, k7, k8, k9, k10, k11, k12, k13, k14, k15, k16, k17, k18, k19, k20, k21, k22, k23, k24, k25, hx, q0, q1, q2, q3, q4, q5, q6, q7, q8, q9, q10, q11, q12, q13, q14, q15, q16, q17, q18, q19, q20, q21, q22, q23, q24, q25⟩ := T.q_CALLS
  match c, h with
  | 0, h =>
    have e : 1 = ar := Option.some.inj h
    subst e
    obtain ⟨f, fd, F, hm, hk, hb⟩ := g_node (P := P) (w := w) (base := base) T
    exact ⟨_, f, fd, 1, hx, by rw [← ref_of hm q0]; rfl, F, hk, hb, by decide⟩
  | 1, h =>
    have e : 2 = ar := Option.some.inj h
    subst e
    obtain ⟨f, fd, F, hm, hk, hb⟩ := g_pipe (P := P) (w := w) (base := base) T
    exact ⟨_, f, fd, 4, hx, by rw [← ref_of hm q1]; rfl, F, hk, hb, by decide⟩
  | 2, h =>
    have e : 3 = ar := Option.some.inj h
    subst e
    obtain ⟨f, fd, F, hm, hk, hb⟩ := g_valve (P := P) (w := w) (base := base) T
    exact ⟨_, f, fd, 4, hx, by rw [← ref_of hm q2]; rfl, F, hk, hb, by decide⟩
  | 3, h =>
    have e : 2 = ar := Option.some.inj h
    subst e
    obtain ⟨f, fd, F, hm, hk, hb⟩ := g_forbid (P := P) (w := w) (base := base) T
    exact ⟨_, f, fd, 5, hx, by rw [← ref_of hm q3]; rfl, F, hk, hb, by decide⟩
  | 4, h =>
    have e : 2 = ar := Option.some.inj h
    subst e
    obtain ⟨f, fd, F, hm, hk, hb⟩ := g_allow (P := P) (w := w) (base := base) T
    exact ⟨_, f, fd, 3, hx, by rw [← ref_of hm q4]; rfl, F, hk, hb, by decide⟩
  | 5, h =>
    have e : 7 = ar := Option.some.inj h
    subst e
    obtain ⟨f, fd, F, hm, hk, hb⟩ := g_pump (P := P) (w := w) (base := base) T
    exact ⟨_, f, fd, 4, hx, by rw [← ref_of hm q5]; rfl, F, hk, hb, by decide⟩
  | 6, h =>
    have e : 1 = ar := Option.some.inj h
    subst e
    obtain ⟨f, fd, F, hm, hk, hb⟩ := g_open_valve (P := P) (w := w) (base := base) T
    exact ⟨_, f, fd, 4, hx, by rw [← ref_of hm q6]; rfl, F, hk, hb, by decide⟩
  | 7, h =>
    have e : 1 = ar := Option.some.inj h
    subst e
    obtain ⟨f, fd, F, hm, hk, hb⟩ := g_shut_valve (P := P) (w := w) (base := base) T
    exact ⟨_, f, fd, 2, hx, by rw [← ref_of hm q7]; rfl, F, hk, hb, by decide⟩
  | 8, h =>
    have e : 0 = ar := Option.some.inj h
    subst e
    obtain ⟨f, fd, F, hm, hk, hb⟩ := g_shut_all (P := P) (w := w) (base := base) T
    exact ⟨_, f, fd, 1, hx, by rw [← ref_of hm q8]; rfl, F, hk, hb, by decide⟩
  | 9, h =>
    have e : 2 = ar := Option.some.inj h
    subst e
    obtain ⟨f, fd, F, hm, hk, hb⟩ := g_run (P := P) (w := w) (base := base) T
    exact ⟨_, f, fd, 2, hx, by rw [← ref_of hm q9]; rfl, F, hk, hb, by decide⟩
  | 10, h =>
    have e : 1 = ar := Option.some.inj h
    subst e
    obtain ⟨f, fd, F, hm, hk, hb⟩ := g_tick (P := P) (w := w) (base := base) T
    exact ⟨_, f, fd, 6, hx, by rw [← ref_of hm q10]; rfl, F, hk, hb, by decide⟩
  | 11, h =>
    have e : 2 = ar := Option.some.inj h
    subst e
    obtain ⟨f, fd, F, hm, hk, hb⟩ := g_pulses (P := P) (w := w) (base := base) T
    exact ⟨_, f, fd, 4, hx, by rw [← ref_of hm q11]; rfl, F, hk, hb, by decide⟩
  | 12, h =>
    have e : 1 = ar := Option.some.inj h
    subst e
    obtain ⟨f, fd, F, hm, hk, hb⟩ := g_clear_pump (P := P) (w := w) (base := base) T
    exact ⟨_, f, fd, 2, hx, by rw [← ref_of hm q12]; rfl, F, hk, hb, by decide⟩
  | 13, h =>
    have e : 2 = ar := Option.some.inj h
    subst e
    obtain ⟨f, fd, F, hm, hk, hb⟩ := g_joined (P := P) (w := w) (base := base) T
    exact ⟨_, f, fd, 5, hx, by rw [← ref_of hm q13]; rfl, F, hk, hb, by decide⟩
  | 14, h =>
    have e : 0 = ar := Option.some.inj h
    subst e
    obtain ⟨f, fd, F, hm, hk, hb⟩ := g_islands (P := P) (w := w) (base := base) T
    exact ⟨_, f, fd, 4, hx, by rw [← ref_of hm q14]; rfl, F, hk, hb, by decide⟩
  | 15, h =>
    have e : 2 = ar := Option.some.inj h
    subst e
    obtain ⟨f, fd, F, hm, hk, hb⟩ := g_way (P := P) (w := w) (base := base) T
    exact ⟨_, f, fd, 5, hx, by rw [← ref_of hm q15]; rfl, F, hk, hb, by decide⟩
  | 16, h =>
    have e : 1 = ar := Option.some.inj h
    subst e
    obtain ⟨f, fd, F, hm, hk, hb⟩ := g_would (P := P) (w := w) (base := base) T
    exact ⟨_, f, fd, 4, hx, by rw [← ref_of hm q16]; rfl, F, hk, hb, by decide⟩
  | 17, h =>
    have e : 0 = ar := Option.some.inj h
    subst e
    obtain ⟨f, fd, F, hm, hk, hb⟩ := g_bridges (P := P) (w := w) (base := base) T
    exact ⟨_, f, fd, 5, hx, by rw [← ref_of hm q17]; rfl, F, hk, hb, by decide⟩
  | 18, h =>
    have e : 1 = ar := Option.some.inj h
    subst e
    obtain ⟨f, fd, F, hm, hk, hb⟩ := g_valve_state (P := P) (w := w) (base := base) T
    exact ⟨_, f, fd, 2, hx, by rw [← ref_of hm q18]; rfl, F, hk, hb, by decide⟩
  | 19, h =>
    have e : 1 = ar := Option.some.inj h
    subst e
    obtain ⟨f, fd, F, hm, hk, hb⟩ := g_pump_state (P := P) (w := w) (base := base) T
    exact ⟨_, f, fd, 2, hx, by rw [← ref_of hm q19]; rfl, F, hk, hb, by decide⟩
  | 20, h =>
    have e : 2 = ar := Option.some.inj h
    subst e
    obtain ⟨f, fd, F, hm, hk, hb⟩ := g_ahead (P := P) (w := w) (base := base) T
    exact ⟨_, f, fd, 5, hx, by rw [← ref_of hm q20]; rfl, F, hk, hb, by decide⟩
  | 21, h =>
    have e : 1 = ar := Option.some.inj h
    subst e
    obtain ⟨f, fd, F, hm, hk, hb⟩ := g_coils (P := P) (w := w) (base := base) T
    exact ⟨_, f, fd, 2, hx, by rw [← ref_of hm q21]; rfl, F, hk, hb, by decide⟩
  | 22, h =>
    have e : 0 = ar := Option.some.inj h
    subst e
    obtain ⟨f, fd, F, hm, hk, hb⟩ := g_ledger (P := P) (w := w) (base := base) T
    exact ⟨_, f, fd, 2, hx, by rw [← ref_of hm q22]; rfl, F, hk, hb, by decide⟩
  | 23, h =>
    have e : 0 = ar := Option.some.inj h
    subst e
    obtain ⟨f, fd, F, hm, hk, hb⟩ := g_stop_all (P := P) (w := w) (base := base) T
    exact ⟨_, f, fd, 1, hx, by rw [← ref_of hm q23]; rfl, F, hk, hb, by decide⟩
  | 24, h =>
    have e : 0 = ar := Option.some.inj h
    subst e
    obtain ⟨f, fd, F, hm, hk, hb⟩ := g_tell_time (P := P) (w := w) (base := base) T
    exact ⟨_, f, fd, 1, hx, by rw [← ref_of hm q24]; rfl, F, hk, hb, by decide⟩
  | 25, h =>
    have e : 0 = ar := Option.some.inj h
    subst e
    obtain ⟨f, fd, F, hm, hk, hb⟩ := g_forbidden (P := P) (w := w) (base := base) T
    exact ⟨_, f, fd, 2, hx, by rw [← ref_of hm q25]; rfl, F, hk, hb, by decide⟩
  | c + 26, h => exact absurd h (by simp [WD])
def sp_answer (t : Adr) : Sp := fun vs H Q _ => ∃ (R : Root) (s : Ss) (g : Addr) (ns : List Int) (c ar : Nat), vs = [.ref R.pl, .int c, .ref g] ∧ WD[c]? = some ar ∧ Rep t R s H ∧ Wf s ∧ H g = some (iL ns) ∧ ns.length = ar ∧
  ∀ H' R' p, Rep t R' (Vbdlad.stepRaw s ((c : Int) :: ns)).1 H' → Go R H R' H' → H p = none → H' p = some (iL (Vbdlad.stepRaw s ((c : Int) :: ns)).2) → Q (.ref p) H'
theorem g_answer (T : Txt K mg t) : GFn P w K mg base 7 "answer" ["plant", "place", "given"] (sp_answer t) := by
  refine T.f_answer.ok sc_answer bn_answer ?len ?body
  case len =>
    intro vs H Q E h
    obtain ⟨R, s, g, ns, c, ar, rfl, _⟩ := h
    rfl
  case body =>
    intro f cdv A outer s' H vs Q E hr h
    obtain ⟨R, s, g, ns, c, ar, rfl, hc, h, wf, hg, hn, k⟩ := h
    obtain ⟨xs, f1, fd, lv, hx, hi, F, hk, hb, hl⟩ := call_of (P := P) (w := w) (base := base) T hc
    refine ⟨_, (pss_cons (ps_set (i := 3) sc_answer.nd rfl (Or.inl rfl) (pe_ix ix_tup (pe_gt rfl T.t_CALLS) (pv 1) (fun _ _ => rfl)))
      (pss_one (ps_ret (pe_cv (pv 3) (pac (pv 0) (pac (pv 2) pa_nil)))))), ?_⟩
    refine ⟨_, rfl, ⟨_, _, _, _, rfl, rfl, hx H, at_of rfl hi, ?_⟩⟩
    refine ⟨_, rfl, ⟨f1, fd, _, _, lv, rfl, F, hk, hb, hr.mono hl, ?_⟩⟩
    exact ⟨_, rfl, _, rfl, ⟨R, s, g, ns, rfl, h, wf, hg, hn, k⟩⟩
end
end Pn

set_option Elab.async false
set_option linter.all false
set_option maxRecDepth 100000
set_option maxHeartbeats 2000000
namespace Pn
open PySem PySem.Spec PyProof.Rows L2
/-! ### the calls in the one list of numbers -/
theorem shape_some {p : Int} {n k : Nat} (h : PyVbdlad.shape p = some (n, k)) : ∃ c : Nat, p = c ∧ WD[c]? = some n ∧ k = 0 := by
  unfold PyVbdlad.shape at h
  by_cases e0 : p = 0
  · rw [if_pos e0] at h
    cases h
    exact ⟨0, e0, rfl, rfl⟩
  rw [if_neg e0] at h
  by_cases e1 : p = 1
  · rw [if_pos e1] at h
    cases h
    exact ⟨1, e1, rfl, rfl⟩
  rw [if_neg e1] at h
  by_cases e2 : p = 2
  · rw [if_pos e2] at h
    cases h
    exact ⟨2, e2, rfl, rfl⟩
  rw [if_neg e2] at h
  by_cases e3 : p = 3
  · rw [if_pos e3] at h
    cases h
    exact ⟨3, e3, rfl, rfl⟩
  rw [if_neg e3] at h
  by_cases e4 : p = 4
  · rw [if_pos e4] at h
    cases h
    exact ⟨4, e4, rfl, rfl⟩
  rw [if_neg e4] at h
  by_cases e5 : p = 5
  · rw [if_pos e5] at h
    cases h
    exact ⟨5, e5, rfl, rfl⟩
  rw [if_neg e5] at h
  by_cases e6 : p = 6
  · rw [if_pos e6] at h
    cases h
    exact ⟨6, e6, rfl, rfl⟩
  rw [if_neg e6] at h
  by_cases e7 : p = 7
  · rw [if_pos e7] at h
    cases h
    exact ⟨7, e7, rfl, rfl⟩
  rw [if_neg e7] at h
  by_cases e8 : p = 8
  · rw [if_pos e8] at h
    cases h
    exact ⟨8, e8, rfl, rfl⟩
  rw [if_neg e8] at h
  by_cases e9 : p = 9
  · rw [if_pos e9] at h
    cases h
    exact ⟨9, e9, rfl, rfl⟩
  rw [if_neg e9] at h
  by_cases e10 : p = 10
  · rw [if_pos e10] at h
    cases h
    exact ⟨10, e10, rfl, rfl⟩
  rw [if_neg e10] at h
  by_cases e11 : p = 11
  · rw [if_pos e11] at h
    cases h
    exact ⟨11, e11, rfl, rfl⟩
  rw [if_neg e11] at h
  by_cases e12 : p = 12
  · rw [if_pos e12] at h
    cases h
    exact ⟨12, e12, rfl, rfl⟩
  rw [if_neg e12] at h
  by_cases e13 : p = 13
  · rw [if_pos e13] at h
    cases h
    exact ⟨13, e13, rfl, rfl⟩
  rw [if_neg e13] at h
  by_cases e14 : p = 14
  · rw [if_pos e14] at h
    cases h
    exact ⟨14, e14, rfl, rfl⟩
  rw [if_neg e14] at h
  by_cases e15 : p = 15
  · rw [if_pos e15] at h
    cases h
    exact ⟨15, e15, rfl, rfl⟩
  rw [if_neg e15] at h
  by_cases e16 : p = 16
  · rw [if_pos e16] at h
    cases h
    exact ⟨16, e16, rfl, rfl⟩
  rw [if_neg e16] at h
  by_cases e17 : p = 17
  · rw [if_pos e17] at h
    cases h
    exact ⟨17, e17, rfl, rfl⟩
  rw [if_neg e17] at h
  by_cases e18 : p = 18
  · rw [if_pos e18] at h
    cases h
    exact ⟨18, e18, rfl, rfl⟩
  rw [if_neg e18] at h
  by_cases e19 : p = 19
  · rw [if_pos e19] at h
    cases h
    exact ⟨19, e19, rfl, rfl⟩
  rw [if_neg e19] at h
  by_cases e20 : p = 20
  · rw [if_pos e20] at h
    cases h
    exact ⟨20, e20, rfl, rfl⟩
  rw [if_neg e20] at h
  by_cases e21 : p = 21
  · rw [if_pos e21] at h
    cases h
    exact ⟨21, e21, rfl, rfl⟩
  rw [if_neg e21] at h
  by_cases e22 : p = 22
  · rw [if_pos e22] at h
    cases h
    exact ⟨22, e22, rfl, rfl⟩
  rw [if_neg e22] at h
  by_cases e23 : p = 23
  · rw [if_pos e23] at h
    cases h
    exact ⟨23, e23, rfl, rfl⟩
  rw [if_neg e23] at h
  by_cases e24 : p = 24
  · rw [if_pos e24] at h
    cases h
    exact ⟨24, e24, rfl, rfl⟩
  rw [if_neg e24] at h
  by_cases e25 : p = 25
  · rw [if_pos e25] at h
    cases h
    exact ⟨25, e25, rfl, rfl⟩
  rw [if_neg e25] at h
  cases h
theorem whole_one {c ar : Nat} {as : List Int} (h : WD[c]? = some ar) (hl : as.length = ar) : PyVbdlad.whole [(c : Int) :: as] = [(c : Int) :: as] := by
  match c, h with
  | 0, h =>
    have e : 1 = ar := Option.some.inj h
    subst e
    obtain ⟨x, rfl⟩ := l1 hl
    rfl
  | 1, h =>
    have e : 2 = ar := Option.some.inj h
    subst e
    obtain ⟨x, y, rfl⟩ := l2 hl
    rfl
  | 2, h =>
    have e : 3 = ar := Option.some.inj h
    subst e
    obtain ⟨x, y, z, rfl⟩ := l3 hl
    rfl
  | 3, h =>
    have e : 2 = ar := Option.some.inj h
    subst e
    obtain ⟨x, y, rfl⟩ := l2 hl
    rfl
  | 4, h =>
    have e : 2 = ar := Option.some.inj h
    subst e
    obtain ⟨x, y, rfl⟩ := l2 hl
    rfl
  | 5, h =>
    have e : 7 = ar := Option.some.inj h
    subst e
    obtain ⟨a, b, d, k, l, e, o, rfl⟩ := l7 hl
    rfl
  | 6, h =>
    have e : 1 = ar := Option.some.inj h
    subst e
    obtain ⟨x, rfl⟩ := l1 hl
    rfl
  | 7, h =>
    have e : 1 = ar := Option.some.inj h
    subst e
    obtain ⟨x, rfl⟩ := l1 hl
    rfl
  | 8, h =>
    have e : 0 = ar := Option.some.inj h
    subst e
    cases l0 hl
    rfl
  | 9, h =>
    have e : 2 = ar := Option.some.inj h
    subst e
    obtain ⟨x, y, rfl⟩ := l2 hl
    rfl
  | 10, h =>
    have e : 1 = ar := Option.some.inj h
    subst e
    obtain ⟨x, rfl⟩ := l1 hl
    rfl
  | 11, h =>
    have e : 2 = ar := Option.some.inj h
    subst e
    obtain ⟨x, y, rfl⟩ := l2 hl
    rfl
  | 12, h =>
    have e : 1 = ar := Option.some.inj h
    subst e
    obtain ⟨x, rfl⟩ := l1 hl
    rfl
  | 13, h =>
    have e : 2 = ar := Option.some.inj h
    subst e
    obtain ⟨x, y, rfl⟩ := l2 hl
    rfl
  | 14, h =>
    have e : 0 = ar := Option.some.inj h
    subst e
    cases l0 hl
    rfl
  | 15, h =>
    have e : 2 = ar := Option.some.inj h
    subst e
    obtain ⟨x, y, rfl⟩ := l2 hl
    rfl
  | 16, h =>
    have e : 1 = ar := Option.some.inj h
    subst e
    obtain ⟨x, rfl⟩ := l1 hl
    rfl
  | 17, h =>
    have e : 0 = ar := Option.some.inj h
    subst e
    cases l0 hl
    rfl
  | 18, h =>
    have e : 1 = ar := Option.some.inj h
    subst e
    obtain ⟨x, rfl⟩ := l1 hl
    rfl
  | 19, h =>
    have e : 1 = ar := Option.some.inj h
    subst e
    obtain ⟨x, rfl⟩ := l1 hl
    rfl
  | 20, h =>
    have e : 2 = ar := Option.some.inj h
    subst e
    obtain ⟨x, y, rfl⟩ := l2 hl
    rfl
  | 21, h =>
    have e : 1 = ar := Option.some.inj h
    subst e
    obtain ⟨x, rfl⟩ := l1 hl
    rfl
  | 22, h =>
    have e : 0 = ar := Option.some.inj h
    subst e
    cases l0 hl
    rfl
  | 23, h =>
    have e : 0 = ar := Option.some.inj h
    subst e
    cases l0 hl
    rfl
  | 24, h =>
    have e : 0 = ar := Option.some.inj h
    subst e
    cases l0 hl
    rfl
  | 25, h =>
    have e : 0 = ar := Option.some.inj h
    subst e
    cases l0 hl
    rfl
  | c + 26, h => exact absurd h (by simp [WD])
theorem calls_cons {f : Nat} {p : Int} {r : List Int} {cs : List (List (List Int))} (h : PyFlat.calls PyVbdlad.shape f (p :: r) = some cs) :
    ∃ (c ar f' : Nat) (cs' : List (List (List Int))), p = c ∧ WD[c]? = some ar ∧ ar ≤ r.length ∧ PyFlat.calls PyVbdlad.shape f' (r.drop ar) = some cs' ∧ cs = [p :: r.take ar] :: cs' := by
  cases f with
  | zero => cases h
  | succ f =>
    unfold PyFlat.calls PyFlat.call at h
    dsimp only at h
    cases hs : PyVbdlad.shape p with
    | none =>
      rw [hs] at h
      cases h
    | some nk =>
      obtain ⟨n, k⟩ := nk
      obtain ⟨c, hc, hw, rfl⟩ := shape_some hs
      rw [hs] at h
      simp only at h
      by_cases hl : r.length < n
      · rw [if_pos hl] at h
        cases h
      · rw [if_neg hl] at h
        simp only [PyFlat.rows] at h
        cases hq : PyFlat.calls PyVbdlad.shape f (r.drop n) with
        | none =>
          rw [hq] at h
          cases h
        | some cs' =>
          rw [hq] at h
          cases h
          exact ⟨c, n, f, cs', hc, hw, by omega, hq, rfl⟩
theorem map_whole : ∀ {f : Nat} {l : List Int} {cs : List (List (List Int))}, PyFlat.calls PyVbdlad.shape f l = some cs → cs.map PyVbdlad.whole = cs
  | f, [], cs, h => by
    have e : cs = [] := by
      cases f with
      | zero => unfold PyFlat.calls at h; cases h; rfl
      | succ f => unfold PyFlat.calls at h; cases h; rfl
    rw [e]
    rfl
  | f, p :: r, cs, h => by
    obtain ⟨c, ar, f', cs', hp, hw, hl, h4, h5⟩ := calls_cons h
    have hd : (r.drop ar).length < (p :: r).length := by rw [List.length_drop, List.length_cons]; omega
    have ih := map_whole h4
    rw [h5, List.map_cons, ih, hp, whole_one hw (by rw [List.length_take]; omega)]
termination_by _ l => l.length
theorem pt_len (l : List (Nat × Nat)) : (Vbdlad.pairsTold l).length = 1 + 2 * l.length := by
  unfold Vbdlad.pairsTold
  induction l with
  | nil => rfl
  | cons a l ih =>
    simp only [List.flatMap_cons, List.length_cons, List.length_append, List.length_nil] at ih ⊢
    omega
theorem ct_len (l : List Nat) : (Vbdlad.counted l).length = 1 + l.length := by
  unfold Vbdlad.counted
  rw [List.length_cons, List.length_map]
  omega
theorem num_len (s : Ss) : (Vbdlad.numbers s).length = s.nodes.length := by
  unfold Vbdlad.numbers
  simp
theorem len_step {s : Ss} (w : Wf s) (c : Vbdlad.Call) : (Vbdlad.step s c).2.length ≤ 60 := by
  have n24 := w.n24
  have v48 := w.vaL
  have f24 := w.foL
  cases c with
  | islands =>
    show (Vbdlad.counted ((Vbdlad.numbers s).map fun x => Vbdlad.island s x)).length ≤ 60
    rw [ct_len, List.length_map, num_len]
    omega
  | way a b =>
    unfold Vbdlad.step
    simp only
    split
    · exact (by decide : 1 ≤ 60)
    · split
      · exact (by decide : 1 ≤ 60)
      · rename_i l hl
        show (Vbdlad.counted l).length ≤ 60
        rw [ct_len]
        have := way_len hl
        omega
  | would v =>
    unfold Vbdlad.step Vbdlad.withValve
    simp only
    split
    · exact (by decide : 1 ≤ 60)
    · rename_i x hx
      show (Vbdlad.pairsTold (Vbdlad.wouldJoin s x.a x.b)).length ≤ 60
      rw [pt_len]
      have := would_len (a := x.a) (b := x.b) w
      omega
  | bridges =>
    show (Vbdlad.counted ((List.range s.valves.length).filter fun i => Vbdlad.bridge s i)).length ≤ 60
    rw [ct_len]
    have := List.length_filter_le (fun i => Vbdlad.bridge s i) (List.range s.valves.length)
    rw [List.length_range] at this
    omega
  | ledger =>
    show ((s.nodes.length : Int) :: (Vbdlad.numbers s).map fun x => Vbdlad.net s x).length ≤ 60
    rw [List.length_cons, List.length_map, num_len]
    omega
  | forbidden =>
    show (Vbdlad.pairsTold s.forbidden).length ≤ 60
    rw [pt_len]
    omega
  | _ =>
    (try unfold Vbdlad.step)
    (try unfold Vbdlad.withValve)
    (try unfold Vbdlad.withPump)
    simp only
    repeat' split
    all_goals (first | exact (by decide : 1 ≤ 60) | exact (by decide : 2 ≤ 60) | exact (by decide : 6 ≤ 60) | exact (by decide : 7 ≤ 60))
theorem len_raw {s : Ss} (w : Wf s) (c : List Int) : (Vbdlad.stepRaw s c).2.length ≤ 60 := by
  unfold Vbdlad.stepRaw
  split
  · exact (by decide : 1 ≤ 60)
  · exact len_step w _
theorem wf_raw {s : Ss} (w : Wf s) (c : List Int) : Wf (Vbdlad.stepRaw s c).1 := by
  unfold Vbdlad.stepRaw
  split
  · exact w
  · exact wf_step w _
/-- so far at place i of the list: tl told, the state s -/
def At (ns : List Int) (i : Nat) (tl : List Int) (s : Ss) : Prop := ∃ (f : Nat) (cs : List (List (List Int))), i ≤ ns.length ∧ PyFlat.calls PyVbdlad.shape f (ns.drop i) = some cs ∧ PyVbdlad.answers ns = tl ++ PyFlat.told (PyFlat.played VbdladNeutral.step s cs) ∧ tl.length + 61 * cs.length ≤ 24400
theorem At.start {ns : List Int} (h : PyVbdlad.answers_asked ns = true) : At ns 0 [] Vbdlad.start := by
  unfold PyVbdlad.answers_asked at h
  cases hc : PyVbdlad.calls ns with
  | none =>
    rw [hc] at h
    cases h
  | some cs =>
    rw [hc] at h
    simp only [Bool.and_eq_true] at h
    have h4 : cs.length ≤ 400 := of_decide_eq_true h.1
    have ha : PyVbdlad.answers ns = PyFlat.told (PyFlat.played VbdladNeutral.step VbdladNeutral.start cs) := by
      unfold PyVbdlad.answers
      rw [hc]
    unfold PyVbdlad.calls at hc
    cases hq : PyFlat.calls PyVbdlad.shape ns.length ns with
    | none =>
      rw [hq] at hc
      cases hc
    | some cs0 =>
      rw [hq] at hc
      have e : cs0.map PyVbdlad.whole = cs := Option.some.inj hc
      rw [map_whole hq] at e
      subst e
      refine ⟨ns.length, cs0, Nat.zero_le _, hq, ha, ?_⟩
      show 0 + 61 * cs0.length ≤ 24400
      omega
theorem At.fin {ns tl : List Int} {i : Nat} {s : Ss} (h : At ns i tl s) (e : ¬ i < ns.length) : PyVbdlad.answers ns = tl := by
  obtain ⟨f, cs, _, h1, h2, _⟩ := h
  rw [List.drop_eq_nil_of_le (by omega)] at h1
  have e2 : cs = [] := by
    cases f with
    | zero => unfold PyFlat.calls at h1; cases h1; rfl
    | succ f => unfold PyFlat.calls at h1; cases h1; rfl
  rw [h2, e2]
  exact List.append_nil _
theorem At.go {ns tl : List Int} {i : Nat} {s : Ss} (h : At ns i tl s) (wf : Wf s) (e : i < ns.length) : ∃ (c ar : Nat) (as : List Int), ns[i]? = some (c : Int) ∧ WD[c]? = some ar ∧ i + 1 + ar ≤ ns.length ∧ as = (ns.drop (i + 1)).take ar ∧ as.length = ar ∧ tl.length + 61 ≤ 24400 ∧
    At ns (i + 1 + ar) (tl ++ (((Vbdlad.stepRaw s ((c : Int) :: as)).2.length : Int) :: (Vbdlad.stepRaw s ((c : Int) :: as)).2)) (Vbdlad.stepRaw s ((c : Int) :: as)).1 := by
  obtain ⟨f, cs, hi, h1, h2, h3⟩ := h
  rw [List.drop_eq_getElem_cons e] at h1
  obtain ⟨c, ar, f', cs', hp, hw, hl, h4, h5⟩ := calls_cons h1
  rw [List.length_drop] at hl
  have hlen := len_raw wf ((c : Int) :: (ns.drop (i + 1)).take ar)
  subst h5
  rw [List.length_cons] at h3
  refine ⟨c, ar, _, by rw [List.getElem?_eq_getElem e, hp], hw, by omega, rfl, ?_, by omega, f', cs', by omega, ?_, ?_, ?_⟩
  · rw [List.length_take, List.length_drop]
    omega
  · rw [List.drop_drop] at h4
    exact h4
  · rw [h2, hp]
    show tl ++ PyFlat.told ((Vbdlad.stepRaw s ((c : Int) :: (ns.drop (i + 1)).take ar)).2 :: PyFlat.played VbdladNeutral.step (Vbdlad.stepRaw s ((c : Int) :: (ns.drop (i + 1)).take ar)).1 cs') = _
    unfold PyFlat.told
    rw [List.flatMap_cons, List.append_assoc]
  · rw [List.length_append, List.length_cons]
    omega
theorem cut_eq {ns : List Int} {i ar : Nat} (h : i + 1 + ar ≤ ns.length) : cutV (ns.map V.int) (some ((i : Int) + 1)) (some (((i + 1 + ar : Nat)) : Int)) = ((ns.drop (i + 1)).take ar).map V.int := by
  unfold cutV
  have e1 : HT.sIx (ns.map V.int).length 0 (some ((i : Int) + 1)) = i + 1 := by
    show (if (i : Int) + 1 < 0 then ((i : Int) + 1 + ((ns.map V.int).length : Int)).toNat else min ((i : Int) + 1).toNat (ns.map V.int).length) = i + 1
    rw [if_neg (by omega), List.length_map]
    omega
  have e2 : HT.sIx (ns.map V.int).length (ns.map V.int).length (some (((i + 1 + ar : Nat)) : Int)) = i + 1 + ar := by
    show (if ((i + 1 + ar : Nat) : Int) < 0 then (((i + 1 + ar : Nat) : Int) + ((ns.map V.int).length : Int)).toNat else min ((i + 1 + ar : Nat) : Int).toNat (ns.map V.int).length) = i + 1 + ar
    rw [if_neg (by omega), List.length_map]
    omega
  rw [e1, e2, ← List.map_drop, ← List.map_take]
  congr 2
  omega
section
variable {P : Program} {w : World} {K : PySem.W.Frag} {mg : Str → Option Value} {base : Heap} {t : Adr}
theorem Rep.told {R : Root} {s : Ss} {H : Hp} (h : Rep t R s H) {l : Addr} {xs : List V} (hl : H l = some (.lst xs)) (nf : ¬ Foot R l) (o : HO) : Rep t R s (upd H l o) := by
  have c := h.core (keepNL (o := o) hl)
  have ne : ∀ {b}, Foot R b → upd H l o b = H b := fun {b} fb => upd_ne fun q => nf (q ▸ fb)
  exact ⟨c.pl, c.nt, by rw [ne (.inr (.inl rfl))]; exact h.lf, by rw [ne (.inr (.inr (.inl rfl)))]; exact h.lp, c.tp, by rw [ne (.inr (.inr (.inr (.inl rfl))))]; exact h.lv, c.vs,
    by rw [ne (.inr (.inr (.inr (.inr (.inl rfl)))))]; exact h.lo, c.fo, by rw [ne (.inr (.inr (.inr (.inr (.inr (.inl rfl))))))]; exact h.lu, c.ps, h.nd, h.vn, h.pn⟩
def LoopA (t : Adr) (ns : List Int) (H : Hp) (a x l : Addr) (m : Nat) (σ : L2.St) (H' : Hp) : Prop :=
  ∃ (i : Nat) (tl : List Int) (s : Ss) (R : Root) (e n : Option V), σ = [some (.ref a), some (.ref x), some (.ref l), some (.int (i : Nat)), e, n] ∧ R.pl = x ∧ Same H H' ∧ Rep t R s H' ∧ Wf s ∧ (∀ b, Foot R b → H b = none) ∧ ¬ Foot R l ∧ H' l = some (iL tl) ∧ At ns i tl s ∧ m = ns.length - i
def sp_answers (K : PySem.W.Frag) : Sp := fun vs H Q _ => ∃ (a : Addr) (ns : List Int), vs = [.ref a] ∧ SqL K H a (ns.map V.int) ∧ PyVbdlad.answers_asked ns = true ∧ ∀ (H' : Hp) (p : Addr), H' p = some (iL (PyVbdlad.answers ns)) → Q (.ref p) H'
theorem len_answers : ∀ vs H Q E, sp_answers K vs H Q E → vs.length = ["calls"].length := by
  intro vs H Q E h
  obtain ⟨a, ns, rfl, _⟩ := h
  rfl
theorem body_answers (T : Txt K mg t) : Body P w K mg base 7 "answers" s_answers ["calls", "plant", "told", "at", "end", "numbers"] (sp_answers K) := by
    intro f cdv A outer s' H vs Q E hr h
    obtain ⟨a, ns, rfl, ha, hask, k⟩ := h
    refine ⟨_, (pss_cons (ps_set (i := 1) sc_answers.nd rfl (Or.inl rfl) (pe_mk0 (g_Plant_init T) (hr.mono (by decide)) rfl))
      (pss_cons (ps_set (i := 2) sc_answers.nd rfl (Or.inl rfl) (pe_lst pa_nil))
      (pss_cons (ps_set (i := 3) sc_answers.nd rfl (Or.inl rfl) pe_int)
      (pss_cons (ps_while PassesOwn.never (pt_cmpR op_lt (pv 3) (pe_blt call_ln rfl T.b_len PySem.boot_len (pac (pv 0) pa_nil)) (nomark _)) (pss_cons (ps_set (i := 4) sc_answers.nd rfl (Or.inl rfl) (pe_op op_add (pe_op op_add (pv 3) pe_int) (pe_ix ix_tup (pe_gt rfl T.t_WIDTHS) (pe_ix ix_list (pv 0) (pv 3) (fun _ _ => rfl)) (fun _ _ => rfl))))
      (pss_cons (ps_set (i := 5) sc_answers.nd rfl (Or.inl rfl) (pe_fn (g_answer T) (hr.mono (by decide)) rfl (pac (pv 1) (pac (pe_ix ix_list (pv 0) (pv 3) (fun _ _ => rfl)) (pac (pe_slice sl_list (pv 0) (po_some (pe_op op_add (pv 3) pe_int)) (po_some (pv 4))) pa_nil)))))
      (pss_cons (ps_expr (pe_lm PySem.F.slot_list_append PySem.F.type_list_append mt_append (pv 2) (pac (pe_blt call_ln rfl T.b_len PySem.boot_len (pac (pv 5) pa_nil)) pa_nil)))
      (pss_cons (ps_expr (pe_lm PySem.F.slot_list_extend PySem.F.type_list_extend mt_extend (pv 2) (pac (pv 5) pa_nil)))
      (pss_one (ps_set (i := 3) sc_answers.nd rfl (Or.inl rfl) (pv 4))))))))
      (pss_one (ps_ret (pv 2))))))), ?_⟩
    have hW : ∀ H, SqT K H t.aW (WD.map fun (n : Nat) => V.int n) := T.q_WIDTHS
    intro x dx nx nd ne
    have s0 : Same H (upd (upd H dx (.own x)) x (.ins t.cL dx [])) := (Same.new nd).trans (Same.new (by rw [upd_ne (Ne.symm ne)]; exact nx))
    refine ⟨x, dx, rfl, upd_same, fun H1 R hpl hR fr b1 => ⟨rfl, ?_⟩⟩
    have s1 : Same H H1 := Same.made nx nd b1
    have fR : ∀ b, Foot R b → H b = none := fun b fb => by
      rcases fr b fb with rfl | e
      · exact nx
      · exact s0.free e
    refine ⟨Nat.zero_le _, fun l nl => ?_⟩
    have nl0 : H l = none := s1.free nl
    refine ⟨LoopA t ns H a x l, ⟨_, 0, [], Vbdlad.start, R, none, none, rfl, hpl, s1.trans (Same.new nl), hR.same (Same.new nl), wf_start, fR, hR.off nl, upd_same, At.start hask, rfl⟩, ?_⟩
    rintro m σ H2 ⟨i, tl, s, R, e, n, rfl, hpl, s2, hR, wf, fR, nf, hl, hat, rfl⟩
    have ha2 := s2.seq ha
    refine ⟨_, rfl, _, rfl, _, ns.length, rfl, ⟨_, .inl ha2, by simp⟩, _, _, rfl, rfl, _, rfl, ?_⟩
    refine ite_b (fun e1 => ?_) (fun e1 => ?_)
    · have e1 : i < ns.length := by have := of_decide_eq_true e1; omega
      obtain ⟨c, ar, as, hi, hw, hle, has, hal, htl, hat2⟩ := hat.go wf e1
      refine ⟨fun σ' H' => ∃ m', m' < ns.length - i ∧ LoopA t ns H a x l m' σ' H', fun _ _ h => h, ?_⟩
      have hic : (ns.map V.int)[i]? = some (.int (c : Nat)) := by rw [List.getElem?_map, hi]; rfl
      refine ⟨_, rfl, _, _, rfl, rfl, _, rfl, _, rfl, ⟨_, _, _, _, rfl, rfl, ha2, at_of rfl hic, ⟨_, _, _, _, rfl, rfl, hW _, at_of rfl (by rw [List.getElem?_map, hw]; rfl), ⟨_, _, rfl, rfl, ?_⟩⟩⟩⟩
      dsimp only
      rw [show (i : Int) + 1 + (ar : Int) = ((i + 1 + ar : Nat) : Int) by omega]
      refine ⟨_, rfl, _, rfl, _, rfl, ⟨_, _, _, _, rfl, rfl, ha2, at_of rfl hic, ?_⟩⟩
      refine ⟨_, rfl, _, rfl, _, _, rfl, rfl, _, rfl, _, rfl, _, rfl, a, _, rfl, ha2, fun g ng => ?_⟩
      rw [cut_eq hle, ← has]
      have s3 : Same H2 (upd H2 g (.lst (as.map V.int))) := Same.new ng
      refine ⟨R, s, g, as, c, ar, by rw [hpl]; rfl, hw, hR.same s3, wf, upd_same, hal, fun H4 R' p hR' go np hp => ?_⟩
      have hl3 := s3 _ _ hl
      have hl4 : H4 l = some (iL tl) := go.keep _ _ hl3 nf
      have nf' : ¬ Foot R' l := fun q => (go.new _ q).elim nf fun z => by rw [hl3] at z; cases z
      have pl : p ≠ l := (ne_of_none hl3 np).symm
      have s4 : Same H H4 := fun b o eb => go.keep _ _ (s3 _ _ (s2 _ _ eb)) fun q => by rw [fR b q] at eb; cases eb
      have hlen := len_raw wf ((c : Int) :: as)
      have wf' := wf_raw wf ((c : Int) :: as)
      have fR' : ∀ b, Foot R' b → H b = none := fun b q => (go.new b q).elim (fun z => fR b z) fun z => (s2.trans s3).free z
      have hpl' : R'.pl = x := go.pl.trans hpl
      generalize Vbdlad.stepRaw s ((c : Int) :: as) = st at hR' hp hlen wf' hat2
      refine ⟨_, rfl, .inl ⟨rfl, _, SqL.of hl4⟩, _, rfl, _, st.2.length, rfl, LenIs.of hp (by simp), l, _, _, rfl, rfl, hl4, szl (by rw [List.length_map]; omega), ?_⟩
      refine ⟨_, rfl, .inl ⟨rfl, _, SqL.of upd_same⟩, _, rfl, l, p, _, _, rfl, rfl, upd_same, by rw [upd_ne pl]; exact hp, sz (by simp; omega), ?_⟩
      refine ⟨_, rfl, ns.length - (i + 1 + ar), by omega, i + 1 + ar, _, st.1, R', _, _, rfl, hpl', fun b o eb => ?_, (hR'.told hl4 nf' _).told upd_same nf' _, wf', fR', nf', ?_, hat2, rfl⟩
      · rw [upd_ne (ne_of_none eb nl0), upd_ne (ne_of_none eb nl0)]
        exact s4 b o eb
      · rw [upd_same]
        unfold iL
        rw [List.map_append, List.map_cons, List.append_assoc]
        rfl
    · have e1 : ¬ i < ns.length := by have := of_decide_eq_false e1; omega
      refine ⟨_, rfl, k H2 l ?_⟩
      rw [hat.fin e1]
      exact hl
theorem all_mk {fa : Addr} (T : Txt K mg t) (hfa : mg "answers" = some (.ref fa)) : ∃ fd : FuncData, (∀ (s : Shared) (us : List Value), us.length = (["calls"] : List Str).length → BindsTo s fd ⟨us, []⟩ ((["calls"] : List Str).zip us)) ∧ ∀ base : Heap, K.In base → base.Ns mainGlobals mg → FnOk P w K mg base CX0 8 fa fd ["calls"] (sp_answers K) := by
  obtain ⟨f, fd, F, g⟩ := T.f_answers
  have e := ref_of g hfa
  subst e
  refine ⟨fd, fun s us hu => ?_, fun base _ _ => F.ok sc_answers len_answers (body_answers T fa)⟩
  obtain ⟨oc, od, kV, doc, pm, an, cdv, ct, osl, rfl, lk, hcd⟩ := F.ex
  exact .of_eq (bn_answers kV doc pm an cdv ct us hu)
/-! ### what the top has written -/
section
variable {h : Heap} {x m qual : Str} {st : Stmt} {f C : Addr} {oc : Value} {od an : Option Addr} {osl : Array (Option Value)} {kV doc pm cdv ct : Value}
theorem fnD_mk (X : K.In h) (G : h.Ns mainGlobals mg) (a : PySem.W.nsIn K mainGlobals x = some (some (.ref f))) (l : K.lookup f = some ⟨oc, od, .func (PySem.W.fnOf x x (defArgs st) (defBody st) (defScope st) .none kV doc pm an cdv ct), osl⟩)
    (c : PySem.W.codeIn K cdv x = true) (k : PySem.W.keepIn K (.ref f) = true) : FnD K mg x st := ⟨f, _, fun_mk l c k, PySem.W.mg_of X G a⟩
theorem meD_mk (a : PySem.W.findIn K (.ref C) m = some (some (.ref f))) (i : PySem.W.isFn K (.ref f) = true) (l : K.lookup f = some ⟨oc, od, .func (PySem.W.fnOf m qual (defArgs st) (defBody st) (defScope st) .none kV doc pm an cdv ct), osl⟩)
    (c : PySem.W.codeIn K cdv qual = true) (k : PySem.W.keepIn K (.ref f) = true) : MeD K C m qual st := ⟨f, _, fun_mk l c k, ⟨a, i, k⟩⟩
theorem mkD_mk (X : K.In h) (G : h.Ns mainGlobals mg) (n : PySem.W.nsIn K mainGlobals x = some (some (.ref C))) (a : PySem.W.findIn K (.ref C) "__init__" = some (some (.ref f))) (i : PySem.W.isFn K (.ref f) = true)
    (l : K.lookup f = some ⟨oc, od, .func (PySem.W.fnOf "__init__" qual (defArgs st) (defBody st) (defScope st) .none kV doc pm an cdv ct), osl⟩)
    (c : PySem.W.codeIn K cdv qual = true) (k : PySem.W.keepIn K (.ref f) = true) (mk : PySem.W.makesIn K C = true) (kc : PySem.W.keepIn K (.ref C) = true) : MkD K mg C x qual st := ⟨f, _, fun_mk l c k, ⟨mk, a, i, kc⟩, PySem.W.mg_of X G n⟩
theorem int_mk {z : Int} {tk : Tok} (X : K.In h) (G : h.Ns mainGlobals mg) (a : PySem.W.nsIn K mainGlobals x = some (some (.int z tk))) : ∃ tk, mg x = some (.int z tk) := ⟨tk, PySem.W.mg_of X G a⟩
theorem sqT_mk {a : Addr} {its : Array Value} {n : Nat} {xs : List V} (l : K.lookup a = some ⟨.type "tuple", od, .seq its n, osl⟩) (z : its.size ≤ sizeLine) (r : Vals xs its.toList) : ∀ H, SqT K H a xs := fun H => .inr ⟨_, its, n, l, rfl, rfl, z, r⟩
end
end
end Pn

set_option Elab.async false
set_option linter.all false
set_option maxRecDepth 100000
namespace Pn
open PySem PySem.Spec PyProof.Rows L2
theorem all_of {P : Program} {w : World} {K : PySem.W.Frag} {mg : Str → Option Value} {fa : Addr} {cV cF cN cP cL aR aC aK aW r0 r1 r2 r3 r4 k0 k1 k2 k3 k4 k5 k6 k7 k8 k9 k10 k11 k12 k13 k14 k15 k16 k17 k18 k19 k20 k21 k22 k23 k24 k25 : Addr} (hfa : mg "answers" = some (.ref fa))
    (c_Valve : Cls K cV)
    (n_Valve_a : NoAttr K cV "a")
    (n_Valve_b : NoAttr K cV "b")
    (n_Valve_travel : NoAttr K cV "travel")
    (n_Valve_place : NoAttr K cV "place")
    (n_Valve_up : NoAttr K cV "up")
    (c_Flow : Cls K cF)
    (n_Flow_fed : NoAttr K cF "fed")
    (n_Flow_drained : NoAttr K cF "drained")
    (c_Net : Cls K cN)
    (n_Net_flags : NoAttr K cN "flags")
    (n_Net_pipes : NoAttr K cN "pipes")
    (n_Net_valves : NoAttr K cN "valves")
    (n_Net_forbidden : NoAttr K cN "forbidden")
    (c_Pump : Cls K cP)
    (n_Pump_a : NoAttr K cP "a")
    (n_Pump_b : NoAttr K cP "b")
    (n_Pump_den : NoAttr K cP "den")
    (n_Pump_stroke : NoAttr K cP "stroke")
    (n_Pump_slope : NoAttr K cP "slope")
    (n_Pump_per : NoAttr K cP "per")
    (n_Pump_tol : NoAttr K cP "tol")
    (n_Pump_target : NoAttr K cP "target")
    (n_Pump_speed : NoAttr K cP "speed")
    (n_Pump_gathered : NoAttr K cP "gathered")
    (n_Pump_position : NoAttr K cP "position")
    (n_Pump_moved : NoAttr K cP "moved")
    (n_Pump_bad : NoAttr K cP "bad")
    (n_Pump_fault : NoAttr K cP "fault")
    (c_Plant : Cls K cL)
    (n_Plant_net : NoAttr K cL "net")
    (n_Plant_pumps : NoAttr K cL "pumps")
    (n_Plant_clock : NoAttr K cL "clock")
    (f_with_count : FnD K mg "with_count" s_with_count)
    (f_with_count_of_pairs : FnD K mg "with_count_of_pairs" s_with_count_of_pairs)
    (f_has_both : FnD K mg "has_both" s_has_both)
    (f_new_link_refusal : FnD K mg "new_link_refusal" s_new_link_refusal)
    (f_node : FnD K mg "node" s_node)
    (f_pipe : FnD K mg "pipe" s_pipe)
    (f_valve : FnD K mg "valve" s_valve)
    (f_forbid : FnD K mg "forbid" s_forbid)
    (f_allow : FnD K mg "allow" s_allow)
    (f_pump : FnD K mg "pump" s_pump)
    (f_open_valve : FnD K mg "open_valve" s_open_valve)
    (f_shut_valve : FnD K mg "shut_valve" s_shut_valve)
    (f_shut_all : FnD K mg "shut_all" s_shut_all)
    (f_run : FnD K mg "run" s_run)
    (f_tick : FnD K mg "tick" s_tick)
    (f_pulses : FnD K mg "pulses" s_pulses)
    (f_clear_pump : FnD K mg "clear_pump" s_clear_pump)
    (f_joined : FnD K mg "joined" s_joined)
    (f_islands : FnD K mg "islands" s_islands)
    (f_way : FnD K mg "way" s_way)
    (f_would : FnD K mg "would" s_would)
    (f_bridges : FnD K mg "bridges" s_bridges)
    (f_valve_state : FnD K mg "valve_state" s_valve_state)
    (f_pump_state : FnD K mg "pump_state" s_pump_state)
    (f_ahead : FnD K mg "ahead" s_ahead)
    (f_coils : FnD K mg "coils" s_coils)
    (f_ledger : FnD K mg "ledger" s_ledger)
    (f_stop_all : FnD K mg "stop_all" s_stop_all)
    (f_tell_time : FnD K mg "tell_time" s_tell_time)
    (f_forbidden : FnD K mg "forbidden" s_forbidden)
    (f_answer : FnD K mg "answer" s_answer)
    (f_Valve_init : MkD K mg cV "Valve" "Valve.__init__" s_Valve_init)
    (f_Valve_counts_as_open : MeD K cV "counts_as_open" "Valve.counts_as_open" s_Valve_counts_as_open)
    (f_Valve_move : MeD K cV "move" "Valve.move" s_Valve_move)
    (f_beyond : FnD K mg "beyond" s_beyond)
    (f_doors_left : FnD K mg "doors_left" s_doors_left)
    (f_door_nearer : FnD K mg "door_nearer" s_door_nearer)
    (f_least_way : FnD K mg "least_way" s_least_way)
    (f_least_joined : FnD K mg "least_joined" s_least_joined)
    (f_reached : FnD K mg "reached" s_reached)
    (f_Flow_init : MkD K mg cF "Flow" "Flow.__init__" s_Flow_init)
    (f_Flow_passes : MeD K cF "passes" "Flow.passes" s_Flow_passes)
    (f_Net_init : MkD K mg cN "Net" "Net.__init__" s_Net_init)
    (f_Net_has_node : MeD K cN "has_node" "Net.has_node" s_Net_has_node)
    (f_Net_has_valve : MeD K cN "has_valve" "Net.has_valve" s_Net_has_valve)
    (f_Net_add_valve : MeD K cN "add_valve" "Net.add_valve" s_Net_add_valve)
    (f_Net_links : MeD K cN "links" "Net.links" s_Net_links)
    (f_Net_islands : MeD K cN "islands" "Net.islands" s_Net_islands)
    (f_Net_are_joined : MeD K cN "are_joined" "Net.are_joined" s_Net_are_joined)
    (f_Net_pairs_joined_by : MeD K cN "pairs_joined_by" "Net.pairs_joined_by" s_Net_pairs_joined_by)
    (f_Net_way : MeD K cN "way" "Net.way" s_Net_way)
    (f_Net_is_bridge : MeD K cN "is_bridge" "Net.is_bridge" s_Net_is_bridge)
    (f_Net_bridges : MeD K cN "bridges" "Net.bridges" s_Net_bridges)
    (f_Net_forbidden_as : MeD K cN "forbidden_as" "Net.forbidden_as" s_Net_forbidden_as)
    (f_Net_flow : MeD K cN "flow" "Net.flow" s_Net_flow)
    (f_Net_move_valves : MeD K cN "move_valves" "Net.move_valves" s_Net_move_valves)
    (f_Pump_init : MkD K mg cP "Pump" "Pump.__init__" s_Pump_init)
    (f_Pump_next_speed : MeD K cP "next_speed" "Pump.next_speed" s_Pump_next_speed)
    (f_Pump_can_go : MeD K cP "can_go" "Pump.can_go" s_Pump_can_go)
    (f_Pump_fail : MeD K cP "fail" "Pump.fail" s_Pump_fail)
    (f_Pump_gather : MeD K cP "gather" "Pump.gather" s_Pump_gather)
    (f_Pump_step : MeD K cP "step" "Pump.step" s_Pump_step)
    (f_Pump_go_at : MeD K cP "go_at" "Pump.go_at" s_Pump_go_at)
    (f_Pump_tick : MeD K cP "tick" "Pump.tick" s_Pump_tick)
    (f_Pump_ahead : MeD K cP "ahead" "Pump.ahead" s_Pump_ahead)
    (f_Pump_take_pulses : MeD K cP "take_pulses" "Pump.take_pulses" s_Pump_take_pulses)
    (f_Pump_judge : MeD K cP "judge" "Pump.judge" s_Pump_judge)
    (f_Pump_clear_fault : MeD K cP "clear_fault" "Pump.clear_fault" s_Pump_clear_fault)
    (f_Plant_init : MkD K mg cL "Plant" "Plant.__init__" s_Plant_init)
    (f_Plant_has_pump : MeD K cL "has_pump" "Plant.has_pump" s_Plant_has_pump)
    (f_Plant_add_pump : MeD K cL "add_pump" "Plant.add_pump" s_Plant_add_pump)
    (f_Plant_faults : MeD K cL "faults" "Plant.faults" s_Plant_faults)
    (f_Plant_ledger : MeD K cL "ledger" "Plant.ledger" s_Plant_ledger)
    (f_Plant_go_on : MeD K cL "go_on" "Plant.go_on" s_Plant_go_on)
    (f_answers : FnD K mg "answers" s_answers)
    (i_MOST_NODES : ∃ tk, mg "MOST_NODES" = some (.int 24 tk))
    (i_MOST_PIPES : ∃ tk, mg "MOST_PIPES" = some (.int 48 tk))
    (i_MOST_VALVES : ∃ tk, mg "MOST_VALVES" = some (.int 48 tk))
    (i_MOST_FORBIDDEN : ∃ tk, mg "MOST_FORBIDDEN" = some (.int 24 tk))
    (i_MOST_PUMPS : ∃ tk, mg "MOST_PUMPS" = some (.int 8 tk))
    (i_MOST_CLOCK : ∃ tk, mg "MOST_CLOCK" = some (.int 20000 tk))
    (i_MOST_AHEAD : ∃ tk, mg "MOST_AHEAD" = some (.int 10000 tk))
    (i_OUT_OF_RANGE : ∃ tk, mg "OUT_OF_RANGE" = some (.int (-1) tk))
    (i_FULL : ∃ tk, mg "FULL" = some (.int (-2) tk))
    (i_SAME_NODE : ∃ tk, mg "SAME_NODE" = some (.int (-3) tk))
    (i_WOULD_JOIN : ∃ tk, mg "WOULD_JOIN" = some (.int (-5) tk))
    (i_ARE_JOINED : ∃ tk, mg "ARE_JOINED" = some (.int (-6) tk))
    (i_HAS_FAULT : ∃ tk, mg "HAS_FAULT" = some (.int (-7) tk))
    (i_TOO_LATE : ∃ tk, mg "TOO_LATE" = some (.int (-8) tk))
    (i_NO_WAY : ∃ tk, mg "NO_WAY" = some (.int (-9) tk))
    (i_SOURCE : ∃ tk, mg "SOURCE" = some (.int 1 tk))
    (i_END : ∃ tk, mg "END" = some (.int 2 tk))
    (i_NOTHING_FLOWS : ∃ tk, mg "NOTHING_FLOWS" = some (.int 1 tk))
    (i_SLIPPED : ∃ tk, mg "SLIPPED" = some (.int 2 tk))
    (t_PUMP_RANGES : mg "PUMP_RANGES" = some (.ref aR))
    (t_COILS : mg "COILS" = some (.ref aC))
    (t_CALLS : mg "CALLS" = some (.ref aK))
    (t_WIDTHS : mg "WIDTHS" = some (.ref aW))
    (q_COILS : ∀ H, SqT K H aC [.int 1, .int 3, .int 2, .int 6, .int 4, .int 12, .int 8, .int 9])
    (q_WIDTHS : ∀ H, SqT K H aW [.int 1, .int 2, .int 3, .int 2, .int 2, .int 7, .int 1, .int 1, .int 0, .int 2, .int 1, .int 2, .int 1, .int 2, .int 0, .int 2, .int 1, .int 0, .int 1, .int 1, .int 2, .int 1, .int 0, .int 0, .int 0, .int 0])
    (q_R : ∀ H, SqT K H aR [.ref r0, .ref r1, .ref r2, .ref r3, .ref r4])
    (q_R0 : ∀ H, SqT K H r0 [.int 1, .int 1000000])
    (q_R1 : ∀ H, SqT K H r1 [.int 1, .int 1000000])
    (q_R2 : ∀ H, SqT K H r2 [.int 1, .int 1000000])
    (q_R3 : ∀ H, SqT K H r3 [.int 1, .int 64])
    (q_R4 : ∀ H, SqT K H r4 [.int 0, .int 1000])
    (q_K : ∀ H, SqT K H aK [.ref k0, .ref k1, .ref k2, .ref k3, .ref k4, .ref k5, .ref k6, .ref k7, .ref k8, .ref k9, .ref k10, .ref k11, .ref k12, .ref k13, .ref k14, .ref k15, .ref k16, .ref k17, .ref k18, .ref k19, .ref k20, .ref k21, .ref k22, .ref k23, .ref k24, .ref k25])
    (q_K0 : mg "node" = some (.ref k0))
    (q_K1 : mg "pipe" = some (.ref k1))
    (q_K2 : mg "valve" = some (.ref k2))
    (q_K3 : mg "forbid" = some (.ref k3))
    (q_K4 : mg "allow" = some (.ref k4))
    (q_K5 : mg "pump" = some (.ref k5))
    (q_K6 : mg "open_valve" = some (.ref k6))
    (q_K7 : mg "shut_valve" = some (.ref k7))
    (q_K8 : mg "shut_all" = some (.ref k8))
    (q_K9 : mg "run" = some (.ref k9))
    (q_K10 : mg "tick" = some (.ref k10))
    (q_K11 : mg "pulses" = some (.ref k11))
    (q_K12 : mg "clear_pump" = some (.ref k12))
    (q_K13 : mg "joined" = some (.ref k13))
    (q_K14 : mg "islands" = some (.ref k14))
    (q_K15 : mg "way" = some (.ref k15))
    (q_K16 : mg "would" = some (.ref k16))
    (q_K17 : mg "bridges" = some (.ref k17))
    (q_K18 : mg "valve_state" = some (.ref k18))
    (q_K19 : mg "pump_state" = some (.ref k19))
    (q_K20 : mg "ahead" = some (.ref k20))
    (q_K21 : mg "coils" = some (.ref k21))
    (q_K22 : mg "ledger" = some (.ref k22))
    (q_K23 : mg "stop_all" = some (.ref k23))
    (q_K24 : mg "tell_time" = some (.ref k24))
    (q_K25 : mg "forbidden" = some (.ref k25))
    (b_abs : mg "abs" = none)
    (b_enumerate : mg "enumerate" = none)
    (b_len : mg "len" = none)
    (b_list : mg "list" = none)
    (b_max : mg "max" = none)
    (b_min : mg "min" = none)
    (b_range : mg "range" = none)
    (b_zip : mg "zip" = none) :
    ∃ fd : FuncData, (∀ (s : Shared) (us : List Value), us.length = (["calls"] : List Str).length → BindsTo s fd ⟨us, []⟩ ((["calls"] : List Str).zip us)) ∧ ∀ base : Heap, K.In base → base.Ns mainGlobals mg → FnOk P w K mg base CX0 8 fa fd ["calls"] (sp_answers K) :=
  all_mk (t := ⟨cV, cF, cN, cP, cL, aR, aC, aK, aW⟩) ⟨c_Valve, n_Valve_a, n_Valve_b, n_Valve_travel, n_Valve_place, n_Valve_up, c_Flow, n_Flow_fed, n_Flow_drained, c_Net, n_Net_flags, n_Net_pipes, n_Net_valves, n_Net_forbidden, c_Pump, n_Pump_a, n_Pump_b, n_Pump_den, n_Pump_stroke, n_Pump_slope, n_Pump_per, n_Pump_tol, n_Pump_target, n_Pump_speed, n_Pump_gathered, n_Pump_position, n_Pump_moved, n_Pump_bad, n_Pump_fault, c_Plant, n_Plant_net, n_Plant_pumps, n_Plant_clock, f_with_count, f_with_count_of_pairs, f_has_both, f_new_link_refusal, f_node, f_pipe, f_valve, f_forbid, f_allow, f_pump, f_open_valve, f_shut_valve, f_shut_all, f_run, f_tick, f_pulses, f_clear_pump, f_joined, f_islands, f_way, f_would, f_bridges, f_valve_state, f_pump_state, f_ahead, f_coils, f_ledger, f_stop_all, f_tell_time, f_forbidden, f_answer, f_Valve_init, f_Valve_counts_as_open, f_Valve_move, f_beyond, f_doors_left, f_door_nearer, f_least_way, f_least_joined, f_reached, f_Flow_init, f_Flow_passes, f_Net_init, f_Net_has_node, f_Net_has_valve, f_Net_add_valve, f_Net_links, f_Net_islands, f_Net_are_joined, f_Net_pairs_joined_by, f_Net_way, f_Net_is_bridge, f_Net_bridges, f_Net_forbidden_as, f_Net_flow, f_Net_move_valves, f_Pump_init, f_Pump_next_speed, f_Pump_can_go, f_Pump_fail, f_Pump_gather, f_Pump_step, f_Pump_go_at, f_Pump_tick, f_Pump_ahead, f_Pump_take_pulses, f_Pump_judge, f_Pump_clear_fault, f_Plant_init, f_Plant_has_pump, f_Plant_add_pump, f_Plant_faults, f_Plant_ledger, f_Plant_go_on, f_answers, i_MOST_NODES, i_MOST_PIPES, i_MOST_VALVES, i_MOST_FORBIDDEN, i_MOST_PUMPS, i_MOST_CLOCK, i_MOST_AHEAD, i_OUT_OF_RANGE, i_FULL, i_SAME_NODE, i_WOULD_JOIN, i_ARE_JOINED, i_HAS_FAULT, i_TOO_LATE, i_NO_WAY, i_SOURCE, i_END, i_NOTHING_FLOWS, i_SLIPPED, t_PUMP_RANGES, t_COILS, t_CALLS, t_WIDTHS, q_COILS, q_WIDTHS, ⟨_, _, _, _, _, q_R, q_R0, q_R1, q_R2, q_R3, q_R4⟩, ⟨_, _, _, _, _, _, _, _, _, _, _, _, _, _, _, _, _, _, _, _, _, _, _, _, _, _, q_K, q_K0, q_K1, q_K2, q_K3, q_K4, q_K5, q_K6, q_K7, q_K8, q_K9, q_K10, q_K11, q_K12, q_K13, q_K14, q_K15, q_K16, q_K17, q_K18, q_K19, q_K20, q_K21, q_K22, q_K23, q_K24, q_K25⟩, b_abs, b_enumerate, b_len, b_list, b_max, b_min, b_range, b_zip⟩ hfa
end Pn

/-! The names below are taken so that the head lays no copies of the text's objects under them: with those copies, and the proof of each that it is the object's, the compiled file is of 180 MB; without them of 50 MB. The kernel checks the head's steps over the objects themselves. -/
theorem PySem.W.Fast.tw3701821277292629717 : True := trivial
theorem PySem.W.Fast.tw12167683451896938062 : True := trivial
theorem PySem.W.Fast.tw6215029095345982994 : True := trivial
theorem PySem.W.Fast.tw14553158140242241184 : True := trivial
theorem PySem.W.Fast.tw17520001680232931618 : True := trivial
theorem PySem.W.Fast.tw8874381677469112394 : True := trivial
theorem PySem.W.Fast.tw6427095140242599369 : True := trivial
theorem PySem.W.Fast.tw6010646054728262021 : True := trivial
theorem PySem.W.Fast.tw15498825757490572636 : True := trivial
theorem PySem.W.Fast.tw3155855166254677052 : True := trivial
theorem PySem.W.Fast.tw12132485095298242783 : True := trivial
theorem PySem.W.Fast.tw13930372533817223136 : True := trivial
theorem PySem.W.Fast.tw12796234239279555328 : True := trivial
theorem PySem.W.Fast.tw6484336573587259685 : True := trivial
theorem PySem.W.Fast.tw16673593829858065421 : True := trivial
theorem PySem.W.Fast.tw8802259295180224950 : True := trivial
theorem PySem.W.Fast.tw7262176860377344959 : True := trivial
theorem PySem.W.Fast.tw13983924304519826509 : True := trivial
theorem PySem.W.Fast.tw5791275116110032877 : True := trivial
theorem PySem.W.Fast.tw9197190287081412313 : True := trivial
theorem PySem.W.Fast.tw7749218576832164620 : True := trivial
theorem PySem.W.Fast.tw3726640229553213072 : True := trivial
theorem PySem.W.Fast.tw903005742037540043 : True := trivial
theorem PySem.W.Fast.tw1913990913525952302 : True := trivial
theorem PySem.W.Fast.tw6955037108556357317 : True := trivial
theorem PySem.W.Fast.tw7527425918216382115 : True := trivial
theorem PySem.W.Fast.tw16572691882725321110 : True := trivial
theorem PySem.W.Fast.tw13355643069339728304 : True := trivial
theorem PySem.W.Fast.tw9533581496903462890 : True := trivial
theorem PySem.W.Fast.tw12474292370160177600 : True := trivial
theorem PySem.W.Fast.tw5414734389798098889 : True := trivial
theorem PySem.W.Fast.tw1887821238867966325 : True := trivial
theorem PySem.W.Fast.tw12538342015907817320 : True := trivial
theorem PySem.W.Fast.tw2536254891695100253 : True := trivial
theorem PySem.W.Fast.tw1156803626138989605 : True := trivial
theorem PySem.W.Fast.tw15845163657378629349 : True := trivial
theorem PySem.W.Fast.tw1146886455903515365 : True := trivial
theorem PySem.W.Fast.tw4723332840596648656 : True := trivial
theorem PySem.W.Fast.tw1737637606666534931 : True := trivial
theorem PySem.W.Fast.tw4127343379756733477 : True := trivial
theorem PySem.W.Fast.tw266291819705590428 : True := trivial
theorem PySem.W.Fast.tw9526170792249424057 : True := trivial
theorem PySem.W.Fast.tw5164849753345603719 : True := trivial
theorem PySem.W.Fast.tw2738705436745400631 : True := trivial
theorem PySem.W.Fast.tw202523073180832586 : True := trivial
theorem PySem.W.Fast.tw889451999311788227 : True := trivial
theorem PySem.W.Fast.tw15329698057852907011 : True := trivial
theorem PySem.W.Fast.tw13935837066402001924 : True := trivial
theorem PySem.W.Fast.tw9323992780135260554 : True := trivial
theorem PySem.W.Fast.tw8489484499456618242 : True := trivial
theorem PySem.W.Fast.tw11862740557716534977 : True := trivial
theorem PySem.W.Fast.tw155169618583314439 : True := trivial
theorem PySem.W.Fast.tw16459234495762753600 : True := trivial
theorem PySem.W.Fast.tw4142705840411365169 : True := trivial
theorem PySem.W.Fast.tw11554393267359121709 : True := trivial
theorem PySem.W.Fast.tw4129357512189441058 : True := trivial
theorem PySem.W.Fast.tw11332546076790434312 : True := trivial
theorem PySem.W.Fast.tw157276657782049038 : True := trivial
theorem PySem.W.Fast.tw8592949180751986621 : True := trivial
theorem PySem.W.Fast.tw15600857034208966344 : True := trivial
theorem PySem.W.Fast.tw9251998912301913635 : True := trivial
theorem PySem.W.Fast.tw7690875681914902321 : True := trivial
theorem PySem.W.Fast.tw11208554085055829649 : True := trivial
theorem PySem.W.Fast.tw12980732938135386374 : True := trivial
theorem PySem.W.Fast.tw12497805274323078600 : True := trivial
theorem PySem.W.Fast.tw5259305617400435874 : True := trivial
theorem PySem.W.Fast.tw14933420772393202552 : True := trivial
theorem PySem.W.Fast.tw16748636837109406989 : True := trivial
theorem PySem.W.Fast.tw11439740815047786844 : True := trivial
theorem PySem.W.Fast.tw17261332174399613671 : True := trivial
theorem PySem.W.Fast.tw10754554286031592377 : True := trivial
theorem PySem.W.Fast.tw13614268487455939280 : True := trivial
theorem PySem.W.Fast.tw6565808152828580618 : True := trivial
theorem PySem.W.Fast.tw18371444108148747847 : True := trivial
theorem PySem.W.Fast.tw8996385135070391279 : True := trivial
theorem PySem.W.Fast.tw4538968953323681243 : True := trivial
theorem PySem.W.Fast.tw6486182998308852083 : True := trivial
theorem PySem.W.Fast.tw8922871933582524980 : True := trivial
theorem PySem.W.Fast.tw2253696085116864266 : True := trivial
theorem PySem.W.Fast.tw9593428057325035612 : True := trivial
theorem PySem.W.Fast.tw12578264479521092778 : True := trivial
theorem PySem.W.Fast.tw14614946921068096686 : True := trivial
theorem PySem.W.Fast.tw3805315936470727700 : True := trivial
theorem PySem.W.Fast.tw18137827921199505024 : True := trivial
theorem PySem.W.Fast.tw6758458216420036992 : True := trivial
theorem PySem.W.Fast.tw10769481234468617819 : True := trivial
theorem PySem.W.Fast.tw8728919934374116330 : True := trivial
theorem PySem.W.Fast.tw11390306444868655043 : True := trivial
theorem PySem.W.Fast.tw5121068837414198712 : True := trivial
theorem PySem.W.Fast.tw16417641108943332164 : True := trivial
theorem PySem.W.Fast.tw6958128055158057148 : True := trivial
theorem PySem.W.Fast.tw11774846576031859811 : True := trivial
theorem PySem.W.Fast.tw16121026490553769806 : True := trivial
theorem PySem.W.Fast.tw3503199105990285244 : True := trivial
theorem PySem.W.Fast.tw10731576023482192576 : True := trivial
theorem PySem.W.Fast.tw6607508229345539955 : True := trivial
theorem PySem.W.Fast.tw1157815466753098497 : True := trivial
theorem PySem.W.Fast.tw12441902857189327808 : True := trivial
theorem PySem.W.Fast.tw4244662038153890102 : True := trivial
theorem PySem.W.Fast.tw5538626795769246485 : True := trivial
theorem PySem.W.Fast.tw342977268534781971 : True := trivial
theorem PySem.W.Fast.tw4726104525741131030 : True := trivial
theorem PySem.W.Fast.tw10828608572734142610 : True := trivial
theorem PySem.W.Fast.tw5295075858481405265 : True := trivial
theorem PySem.W.Fast.tw10636552398344010367 : True := trivial
theorem PySem.W.Fast.tw11304930628491239875 : True := trivial
theorem PySem.W.Fast.tw14545241107533110280 : True := trivial
theorem PySem.W.Fast.tw11562343682038525806 : True := trivial
theorem PySem.W.Fast.tw7815924092271183672 : True := trivial
theorem PySem.W.Fast.tw5476775817246583713 : True := trivial
theorem PySem.W.Fast.tw12028970590770831208 : True := trivial
theorem PySem.W.Fast.tw11926026421785640509 : True := trivial
theorem PySem.W.Fast.tw16045515016004776466 : True := trivial
theorem PySem.W.Fast.tw17673755140754707109 : True := trivial
theorem PySem.W.Fast.tw8989507486393299299 : True := trivial
theorem PySem.W.Fast.tw4388122895687809790 : True := trivial
theorem PySem.W.Fast.tw2525452288258006225 : True := trivial
theorem PySem.W.Fast.tw3463121029552427815 : True := trivial
theorem PySem.W.Fast.tw7730862625777039832 : True := trivial
theorem PySem.W.Fast.tw11995285513241919653 : True := trivial
theorem PySem.W.Fast.tw17956038031067028483 : True := trivial
theorem PySem.W.Fast.tw1401339535627558256 : True := trivial
theorem PySem.W.Fast.tw17023467442936334724 : True := trivial
theorem PySem.W.Fast.tw1929991937293710474 : True := trivial
theorem PySem.W.Fast.tw1671822598692222809 : True := trivial
theorem PySem.W.Fast.tw1043263448675494459 : True := trivial
theorem PySem.W.Fast.tw11990749551690423179 : True := trivial
theorem PySem.W.Fast.tw636107124507242530 : True := trivial
theorem PySem.W.Fast.tw14411290232060652732 : True := trivial
theorem PySem.W.Fast.tw13024795515141251847 : True := trivial
theorem PySem.W.Fast.tw9759441184977801058 : True := trivial
theorem PySem.W.Fast.tw446834277167645792 : True := trivial
theorem PySem.W.Fast.tw3567663128879119776 : True := trivial
theorem PySem.W.Fast.tw8428327677522835749 : True := trivial
theorem PySem.W.Fast.tw15160729449023447067 : True := trivial
theorem PySem.W.Fast.tw6322706639436667698 : True := trivial
theorem PySem.W.Fast.tw5270595312711810296 : True := trivial
theorem PySem.W.Fast.tw9600069336035852836 : True := trivial
theorem PySem.W.Fast.tw4103523575989795203 : True := trivial
theorem PySem.W.Fast.tw14083547297399111527 : True := trivial
theorem PySem.W.Fast.tw14707800895193086150 : True := trivial
theorem PySem.W.Fast.tw7668127356574190067 : True := trivial
theorem PySem.W.Fast.tw10773931088034572079 : True := trivial
theorem PySem.W.Fast.tw17677084103762587326 : True := trivial
theorem PySem.W.Fast.tw16484514239339413697 : True := trivial
theorem PySem.W.Fast.tw17927057272510480815 : True := trivial
theorem PySem.W.Fast.tw16169297197480519495 : True := trivial
theorem PySem.W.Fast.tw13378631869363275200 : True := trivial
theorem PySem.W.Fast.tw3193933741013224326 : True := trivial
theorem PySem.W.Fast.tw3915455953067849190 : True := trivial
theorem PySem.W.Fast.tw15851977121969719457 : True := trivial
theorem PySem.W.Fast.tw10030373742516472492 : True := trivial
theorem PySem.W.Fast.tw2678188305228721691 : True := trivial
theorem PySem.W.Fast.tw14242692197216461324 : True := trivial
theorem PySem.W.Fast.tw13085859334158688667 : True := trivial
theorem PySem.W.Fast.tw3158532241632116204 : True := trivial
theorem PySem.W.Fast.tw102329026230079511 : True := trivial
theorem PySem.W.Fast.tw13347810649725413432 : True := trivial
theorem PySem.W.Fast.tw8174001797504097052 : True := trivial
theorem PySem.W.Fast.tw15005900761284332599 : True := trivial
theorem PySem.W.Fast.tw8807049214449447450 : True := trivial
theorem PySem.W.Fast.tw17723978010951940327 : True := trivial
theorem PySem.W.Fast.tw2181790179091833874 : True := trivial
theorem PySem.W.Fast.tw16801390092041741056 : True := trivial
theorem PySem.W.Fast.tw13718897555873165446 : True := trivial
theorem PySem.W.Fast.tw13028772553318131491 : True := trivial
theorem PySem.W.Fast.tw15570159824595984341 : True := trivial
theorem PySem.W.Fast.tw17125521234037519689 : True := trivial
theorem PySem.W.Fast.tw17839580940171094932 : True := trivial
theorem PySem.W.Fast.tw12734872847507032964 : True := trivial
theorem PySem.W.Fast.tw17674803812593141004 : True := trivial
theorem PySem.W.Fast.tw16241691547378361545 : True := trivial
theorem PySem.W.Fast.tw18196501689172371068 : True := trivial
theorem PySem.W.Fast.tw5825103359586991781 : True := trivial
theorem PySem.W.Fast.tw10831536444144687476 : True := trivial
theorem PySem.W.Fast.tw4690062629583140257 : True := trivial
theorem PySem.W.Fast.tw1419129710595787749 : True := trivial
theorem PySem.W.Fast.tw4646147811135894443 : True := trivial
theorem PySem.W.Fast.tw10047662029080836966 : True := trivial
theorem PySem.W.Fast.tw7473130322686083301 : True := trivial
theorem PySem.W.Fast.tw11164346357119744443 : True := trivial
theorem PySem.W.Fast.tw5879424832956409616 : True := trivial
theorem PySem.W.Fast.tw3330275580203796140 : True := trivial
theorem PySem.W.Fast.tw4128796006843179975 : True := trivial
theorem PySem.W.Fast.tw2699307723755636560 : True := trivial
theorem PySem.W.Fast.tw3739659692038124491 : True := trivial
theorem PySem.W.Fast.tw1217246745100042218 : True := trivial
theorem PySem.W.Fast.tw18198795021426245261 : True := trivial
theorem PySem.W.Fast.tw14601632508370331166 : True := trivial
theorem PySem.W.Fast.tw13426429991398102025 : True := trivial
theorem PySem.W.Fast.tw13722603150716660170 : True := trivial
theorem PySem.W.Fast.tw6942446328873711169 : True := trivial
theorem PySem.W.Fast.tw11032658151232133552 : True := trivial
theorem PySem.W.Fast.tw1986964331976054951 : True := trivial
theorem PySem.W.Fast.tw2607678721443818348 : True := trivial
theorem PySem.W.Fast.tw7500299731043256196 : True := trivial
theorem PySem.W.Fast.tw17728120434576087719 : True := trivial
theorem PySem.W.Fast.tw1606211318564685685 : True := trivial
theorem PySem.W.Fast.tw12998459684561091163 : True := trivial
theorem PySem.W.Fast.tw17252277197170347582 : True := trivial
theorem PySem.W.Fast.tw4850368703249036392 : True := trivial
theorem PySem.W.Fast.tw16948626085188407224 : True := trivial
theorem PySem.W.Fast.tw12856642478561734526 : True := trivial
theorem PySem.W.Fast.tw11545803843646891828 : True := trivial
theorem PySem.W.Fast.tw11784786271884442014 : True := trivial
theorem PySem.W.Fast.tw6138739509406334909 : True := trivial
theorem PySem.W.Fast.tw10771083083498713541 : True := trivial
theorem PySem.W.Fast.tw1995106215252458168 : True := trivial
theorem PySem.W.Fast.tw980162473957792517 : True := trivial
theorem PySem.W.Fast.tw2907745619025346803 : True := trivial
theorem PySem.W.Fast.tw9347913306690424172 : True := trivial
theorem PySem.W.Fast.tw8620889583227028253 : True := trivial
theorem PySem.W.Fast.tw3091818812815640150 : True := trivial
theorem PySem.W.Fast.tw15422301229988756839 : True := trivial
theorem PySem.W.Fast.tw14422865058847383794 : True := trivial
theorem PySem.W.Fast.tw12760013667500817289 : True := trivial
theorem PySem.W.Fast.tw9513200541295141346 : True := trivial
theorem PySem.W.Fast.tw11323216454936241856 : True := trivial
theorem PySem.W.Fast.tw16259572124672592126 : True := trivial
theorem PySem.W.Fast.tw16977543707577571051 : True := trivial
theorem PySem.W.Fast.tw3227777358936749828 : True := trivial
theorem PySem.W.Fast.tw13838378048630530783 : True := trivial
theorem PySem.W.Fast.tw6977121969359803289 : True := trivial
theorem PySem.W.Fast.tw11530985741581407964 : True := trivial
theorem PySem.W.Fast.tw8281999143589929797 : True := trivial
theorem PySem.W.Fast.tw72151102111121971 : True := trivial
theorem PySem.W.Fast.tw4888813652464596752 : True := trivial
theorem PySem.W.Fast.tw9251133226869821218 : True := trivial
theorem PySem.W.Fast.tw17285591416991521804 : True := trivial
theorem PySem.W.Fast.tw11962630583532800046 : True := trivial
theorem PySem.W.Fast.tw14059545311554097231 : True := trivial
theorem PySem.W.Fast.tw12271192591051997647 : True := trivial
theorem PySem.W.Fast.tw8251297304738472738 : True := trivial
theorem PySem.W.Fast.tw17481938209976023813 : True := trivial
theorem PySem.W.Fast.tw17962104081076254824 : True := trivial
theorem PySem.W.Fast.tw6853209856053368592 : True := trivial
theorem PySem.W.Fast.tw14258552591699645235 : True := trivial
theorem PySem.W.Fast.tw8054845585963703216 : True := trivial
theorem PySem.W.Fast.tw949156048857559457 : True := trivial
theorem PySem.W.Fast.tw15137223069233282706 : True := trivial
theorem PySem.W.Fast.tw14425822711198088637 : True := trivial
theorem PySem.W.Fast.tw5397262050043177414 : True := trivial
theorem PySem.W.Fast.tw13447159091400408486 : True := trivial
theorem PySem.W.Fast.tw14621619215672586008 : True := trivial
theorem PySem.W.Fast.tw14202416874809120952 : True := trivial
theorem PySem.W.Fast.tw15883174450950114915 : True := trivial
theorem PySem.W.Fast.tw4973977962893555174 : True := trivial
theorem PySem.W.Fast.tw15259206225539515576 : True := trivial
theorem PySem.W.Fast.tw6280844734997220279 : True := trivial
theorem PySem.W.Fast.tw1266451816526148653 : True := trivial
theorem PySem.W.Fast.tw2817659791636820501 : True := trivial
theorem PySem.W.Fast.tw8626850640636959501 : True := trivial
theorem PySem.W.Fast.tw13515863115409929727 : True := trivial
theorem PySem.W.Fast.tw2507615994692176926 : True := trivial
theorem PySem.W.Fast.tw10895118868454636756 : True := trivial
theorem PySem.W.Fast.tw1340019951780444311 : True := trivial
theorem PySem.W.Fast.tw13376946196326323700 : True := trivial
theorem PySem.W.Fast.tw5407809368983626843 : True := trivial
theorem PySem.W.Fast.tw3225242581988576200 : True := trivial
theorem PySem.W.Fast.tw12878632828922889516 : True := trivial
theorem PySem.W.Fast.tw8201900568616733028 : True := trivial
theorem PySem.W.Fast.tw14515896684480866233 : True := trivial
theorem PySem.W.Fast.tw5215123758539918713 : True := trivial
theorem PySem.W.Fast.tw14851198186171256610 : True := trivial
theorem PySem.W.Fast.tw10687022842904608763 : True := trivial
theorem PySem.W.Fast.tw13356379288102594968 : True := trivial
theorem PySem.W.Fast.tw12492373778781206074 : True := trivial
theorem PySem.W.Fast.tw4101762411447842596 : True := trivial
theorem PySem.W.Fast.tw16463280866853560277 : True := trivial
theorem PySem.W.Fast.tw17186735354836109771 : True := trivial
theorem PySem.W.Fast.tw6937048838608731448 : True := trivial
theorem PySem.W.Fast.tw1409289070475430829 : True := trivial
theorem PySem.W.Fast.tw15849278082533149938 : True := trivial
theorem PySem.W.Fast.tw14769785469053923757 : True := trivial
theorem PySem.W.Fast.tw5811337661399111568 : True := trivial
theorem PySem.W.Fast.tw16221954938982811730 : True := trivial
theorem PySem.W.Fast.tw1616977124646635561 : True := trivial
theorem PySem.W.Fast.tw7051652301824418700 : True := trivial
theorem PySem.W.Fast.tw2860674831197143074 : True := trivial
theorem PySem.W.Fast.tw10587408711690942402 : True := trivial
theorem PySem.W.Fast.tw10611952053952258589 : True := trivial
theorem PySem.W.Fast.tw16654687946199684551 : True := trivial
theorem PySem.W.Fast.tw17289894144432633661 : True := trivial
theorem PySem.W.Fast.tw6097189541756877625 : True := trivial
theorem PySem.W.Fast.tw8178738073016305325 : True := trivial
theorem PySem.W.Fast.tw5465983484854595185 : True := trivial
theorem PySem.W.Fast.tw8585147127491649704 : True := trivial
theorem PySem.W.Fast.tw13675021311707915938 : True := trivial
theorem PySem.W.Fast.tw8246956050275013081 : True := trivial
theorem PySem.W.Fast.tw205431817287110226 : True := trivial
theorem PySem.W.Fast.tw13690649597258488161 : True := trivial
theorem PySem.W.Fast.tw2016630292105978269 : True := trivial
theorem PySem.W.Fast.tw13760495853189252965 : True := trivial
theorem PySem.W.Fast.tw915062120862937657 : True := trivial
theorem PySem.W.Fast.tw17573618115720918716 : True := trivial
theorem PySem.W.Fast.tw6029036566284700000 : True := trivial
theorem PySem.W.Fast.tw10684874694008162219 : True := trivial
theorem PySem.W.Fast.tw1502738238871560571 : True := trivial
theorem PySem.W.Fast.tw16991729524267778477 : True := trivial
theorem PySem.W.Fast.tw7771498721318923662 : True := trivial
theorem PySem.W.Fast.tw1676457604574928094 : True := trivial
theorem PySem.W.Fast.tw4515416134605341563 : True := trivial
theorem PySem.W.Fast.tw15240492246791789610 : True := trivial
theorem PySem.W.Fast.tw2565158807190092119 : True := trivial
theorem PySem.W.Fast.tw2973670104712924896 : True := trivial
theorem PySem.W.Fast.tw2593098905959618190 : True := trivial
theorem PySem.W.Fast.tw3469208433904762307 : True := trivial
theorem PySem.W.Fast.tw12033103730234090554 : True := trivial
theorem PySem.W.Fast.tw12817395226839178470 : True := trivial
theorem PySem.W.Fast.tw15023046708036337365 : True := trivial
theorem PySem.W.Fast.tw5120893693449362348 : True := trivial
theorem PySem.W.Fast.tw17069058546112019047 : True := trivial
theorem PySem.W.Fast.tw9720126287342410292 : True := trivial
theorem PySem.W.Fast.tw7868779766067177458 : True := trivial
theorem PySem.W.Fast.tw14555042832032353321 : True := trivial
theorem PySem.W.Fast.tw2406654235025878684 : True := trivial
theorem PySem.W.Fast.tw16969843993133894511 : True := trivial
theorem PySem.W.Fast.tw2191791275579640447 : True := trivial
theorem PySem.W.Fast.tw13571235329260774314 : True := trivial
theorem PySem.W.Fast.tw5344912412268375488 : True := trivial
theorem PySem.W.Fast.tw2486140200495431325 : True := trivial
theorem PySem.W.Fast.tw18326388255166169429 : True := trivial
theorem PySem.W.Fast.tw1095969018750127062 : True := trivial
theorem PySem.W.Fast.tw1198870662394920653 : True := trivial
theorem PySem.W.Fast.tw7989733410365388625 : True := trivial
theorem PySem.W.Fast.tw6490022989671741244 : True := trivial
theorem PySem.W.Fast.tw8677487103047180975 : True := trivial
theorem PySem.W.Fast.tw9445680713947870031 : True := trivial
theorem PySem.W.Fast.tw16341269697389636854 : True := trivial
theorem PySem.W.Fast.tw5666606251411588907 : True := trivial
theorem PySem.W.Fast.tw16147464330191944925 : True := trivial
theorem PySem.W.Fast.tw10612624498009469108 : True := trivial
theorem PySem.W.Fast.tw13005832644594184022 : True := trivial
theorem PySem.W.Fast.tw2632864352322237273 : True := trivial
theorem PySem.W.Fast.tw18213209659983297852 : True := trivial
theorem PySem.W.Fast.tw3413647898917602350 : True := trivial
theorem PySem.W.Fast.tw15845017304458689447 : True := trivial
theorem PySem.W.Fast.tw16049340315064826073 : True := trivial
theorem PySem.W.Fast.tw13447674342699249109 : True := trivial
theorem PySem.W.Fast.tw12694568951160535846 : True := trivial
theorem PySem.W.Fast.tw17853827238675242227 : True := trivial
theorem PySem.W.Fast.tw4273866881088224612 : True := trivial
theorem PySem.W.Fast.tw14528697841240979763 : True := trivial
theorem PySem.W.Fast.tw11943688411212642743 : True := trivial
theorem PySem.W.Fast.tw7021954239228647966 : True := trivial
theorem PySem.W.Fast.tw1477210353145543695 : True := trivial
theorem PySem.W.Fast.tw6909504798717187488 : True := trivial
theorem PySem.W.Fast.tw5214725191182227302 : True := trivial
theorem PySem.W.Fast.tw3123301506368065218 : True := trivial
theorem PySem.W.Fast.tw5225175079587019947 : True := trivial
theorem PySem.W.Fast.tw7092248465348478249 : True := trivial
theorem PySem.W.Fast.tw12436236140459122752 : True := trivial
theorem PySem.W.Fast.tw16625767752605149407 : True := trivial
theorem PySem.W.Fast.tw17058625445911560558 : True := trivial
theorem PySem.W.Fast.tw996937080280197301 : True := trivial
theorem PySem.W.Fast.tw17728042425887922629 : True := trivial
theorem PySem.W.Fast.tw1647310602290894786 : True := trivial
theorem PySem.W.Fast.tw10321722397661996272 : True := trivial
theorem PySem.W.Fast.tw272957762725324784 : True := trivial
theorem PySem.W.Fast.tw17148009914259907009 : True := trivial
theorem PySem.W.Fast.tw9359597916450431633 : True := trivial
theorem PySem.W.Fast.tw16911610389774459104 : True := trivial
theorem PySem.W.Fast.tw8302789768523231571 : True := trivial
theorem PySem.W.Fast.tw5003292053720033418 : True := trivial
theorem PySem.W.Fast.tw17925635520084985797 : True := trivial
theorem PySem.W.Fast.tw1383682456035142341 : True := trivial
theorem PySem.W.Fast.tw18175707775126360588 : True := trivial
theorem PySem.W.Fast.tw10297319624597141685 : True := trivial
theorem PySem.W.Fast.tw8383204971413077133 : True := trivial
theorem PySem.W.Fast.tw4691117377884593754 : True := trivial
theorem PySem.W.Fast.tw12191110947084838681 : True := trivial
theorem PySem.W.Fast.tw7122113170205838257 : True := trivial
theorem PySem.W.Fast.tw14530934987351736433 : True := trivial
theorem PySem.W.Fast.tw7174004502660953886 : True := trivial
theorem PySem.W.Fast.tw16948742476901356863 : True := trivial
theorem PySem.W.Fast.tw12612136274608892761 : True := trivial
theorem PySem.W.Fast.tw810747798884933237 : True := trivial
theorem PySem.W.Fast.tw7348877351902429986 : True := trivial
theorem PySem.W.Fast.tw11220340348707666115 : True := trivial
theorem PySem.W.Fast.tw17259223561448318036 : True := trivial
theorem PySem.W.Fast.tw5563024231733421408 : True := trivial
theorem PySem.W.Fast.tw1417277301231081566 : True := trivial
theorem PySem.W.Fast.tw1249789501564509765 : True := trivial
theorem PySem.W.Fast.tw4332186629427290820 : True := trivial
theorem PySem.W.Fast.tw3504339394438142772 : True := trivial
theorem PySem.W.Fast.tw1762971660936282434 : True := trivial
theorem PySem.W.Fast.tw5340430332326053091 : True := trivial
theorem PySem.W.Fast.tw11346962056921681865 : True := trivial
theorem PySem.W.Fast.tw1012812659990336902 : True := trivial
theorem PySem.W.Fast.tw15172322324266350401 : True := trivial
theorem PySem.W.Fast.tw4339337375220539390 : True := trivial
theorem PySem.W.Fast.tw13778509116433905646 : True := trivial
theorem PySem.W.Fast.tw7706318472565815537 : True := trivial
theorem PySem.W.Fast.tw12574405881260376736 : True := trivial
theorem PySem.W.Fast.tw8650489761108033101 : True := trivial
theorem PySem.W.Fast.tw13611587131121941740 : True := trivial
theorem PySem.W.Fast.tw15361213979228895197 : True := trivial
theorem PySem.W.Fast.tw18254260490010547852 : True := trivial
theorem PySem.W.Fast.tw17647428483267172113 : True := trivial
theorem PySem.W.Fast.tw10155330152036084898 : True := trivial
theorem PySem.W.Fast.tw1749855493079597996 : True := trivial
theorem PySem.W.Fast.tw9982146088989318729 : True := trivial
theorem PySem.W.Fast.tw14883675332863372782 : True := trivial
theorem PySem.W.Fast.tw8955836211332471326 : True := trivial
theorem PySem.W.Fast.tw18211197200128222737 : True := trivial
theorem PySem.W.Fast.tw11040506624914421778 : True := trivial
theorem PySem.W.Fast.tw15792942377156484260 : True := trivial
theorem PySem.W.Fast.tw16436376853595907817 : True := trivial
theorem PySem.W.Fast.tw9485283096427769556 : True := trivial
theorem PySem.W.Fast.tw4242066166580151608 : True := trivial
theorem PySem.W.Fast.tw13243764707444824172 : True := trivial
theorem PySem.W.Fast.tw9562058469011808262 : True := trivial
theorem PySem.W.Fast.tw16285221451704490301 : True := trivial
theorem PySem.W.Fast.tw12560040609664765165 : True := trivial
theorem PySem.W.Fast.tw8660859988622530912 : True := trivial
theorem PySem.W.Fast.tw14768775449579586227 : True := trivial
theorem PySem.W.Fast.tw14354599949799361815 : True := trivial
theorem PySem.W.Fast.tw14033836020792941041 : True := trivial
theorem PySem.W.Fast.tw14416275643499404346 : True := trivial
theorem PySem.W.Fast.tw11395138068548269785 : True := trivial
theorem PySem.W.Fast.tw5988803514062468106 : True := trivial
theorem PySem.W.Fast.tw10028901606805148811 : True := trivial
theorem PySem.W.Fast.tw13950320824094420669 : True := trivial
theorem PySem.W.Fast.tw2182042610367218357 : True := trivial
theorem PySem.W.Fast.tw11394895304729989191 : True := trivial
theorem PySem.W.Fast.tw12400957472042578256 : True := trivial
theorem PySem.W.Fast.tw1844743976920172056 : True := trivial
theorem PySem.W.Fast.tw12270479973317958242 : True := trivial
theorem PySem.W.Fast.tw3397915704305715820 : True := trivial
theorem PySem.W.Fast.tw6207992004109400691 : True := trivial
theorem PySem.W.Fast.tw12648233533492482625 : True := trivial
theorem PySem.W.Fast.tw11886306601540918151 : True := trivial
theorem PySem.W.Fast.tw6570123012588221125 : True := trivial
theorem PySem.W.Fast.tw617935309745349501 : True := trivial
theorem PySem.W.Fast.tw18138954059950963095 : True := trivial
theorem PySem.W.Fast.tw1238495756456677189 : True := trivial
theorem PySem.W.Fast.tw9827919812417305700 : True := trivial
theorem PySem.W.Fast.tw17906064643093351160 : True := trivial
theorem PySem.W.Fast.tw13291525703161333479 : True := trivial
theorem PySem.W.Fast.tw9622889925459818152 : True := trivial
theorem PySem.W.Fast.tw11743212171665271329 : True := trivial
theorem PySem.W.Fast.tw1078895398385156544 : True := trivial
theorem PySem.W.Fast.tw5984769689141604893 : True := trivial
theorem PySem.W.Fast.tw4634156975075349782 : True := trivial
theorem PySem.W.Fast.tw2949169311862089363 : True := trivial
theorem PySem.W.Fast.tw943724802332284208 : True := trivial
theorem PySem.W.Fast.tw5506079755076740920 : True := trivial
theorem PySem.W.Fast.tw4051196005430234024 : True := trivial
theorem PySem.W.Fast.tw4620479641313224773 : True := trivial
theorem PySem.W.Fast.tw932838942918134988 : True := trivial
theorem PySem.W.Fast.tw10785301645536217763 : True := trivial
theorem PySem.W.Fast.tw6360801526600162132 : True := trivial
theorem PySem.W.Fast.tw5719990178156315964 : True := trivial
theorem PySem.W.Fast.tw18215422682820533922 : True := trivial
theorem PySem.W.Fast.tw9725136822225895174 : True := trivial
theorem PySem.W.Fast.tw14938577915585595953 : True := trivial
theorem PySem.W.Fast.tw1121210111045732161 : True := trivial
theorem PySem.W.Fast.tw14862065996647258032 : True := trivial
theorem PySem.W.Fast.tw17354051464505111596 : True := trivial
theorem PySem.W.Fast.tw17890398644690829813 : True := trivial
theorem PySem.W.Fast.tw7912928108471922198 : True := trivial
theorem PySem.W.Fast.tw377690136395602407 : True := trivial
theorem PySem.W.Fast.tw5617924928961593394 : True := trivial
theorem PySem.W.Fast.tw1462378444885573040 : True := trivial
theorem PySem.W.Fast.tw4233726271965471056 : True := trivial
theorem PySem.W.Fast.tw12594230414549579801 : True := trivial
theorem PySem.W.Fast.tw9325040208522936756 : True := trivial
theorem PySem.W.Fast.tw9592891589706016512 : True := trivial
theorem PySem.W.Fast.tw17324085208055772930 : True := trivial
theorem PySem.W.Fast.tw15128307862199435739 : True := trivial
theorem PySem.W.Fast.tw13452297651918484306 : True := trivial
theorem PySem.W.Fast.tw11707293820138918458 : True := trivial
theorem PySem.W.Fast.tw11590343317007822992 : True := trivial
theorem PySem.W.Fast.tw2692302831171313265 : True := trivial
theorem PySem.W.Fast.tw7253477223632130823 : True := trivial
theorem PySem.W.Fast.tw15602734689242594680 : True := trivial
theorem PySem.W.Fast.tw171642423749436637 : True := trivial
theorem PySem.W.Fast.tw4488345381171136437 : True := trivial
theorem PySem.W.Fast.tw12378329460881460211 : True := trivial
theorem PySem.W.Fast.tw11096556762700840435 : True := trivial
theorem PySem.W.Fast.tw12539483542725911506 : True := trivial
theorem PySem.W.Fast.tw4623420631293435846 : True := trivial
theorem PySem.W.Fast.tw12695489928411226156 : True := trivial
theorem PySem.W.Fast.tw2847745577993647321 : True := trivial
theorem PySem.W.Fast.tw677126915251671089 : True := trivial
theorem PySem.W.Fast.tw392497402529393075 : True := trivial
theorem PySem.W.Fast.tw10302386213098384848 : True := trivial
theorem PySem.W.Fast.tw1007453835997403974 : True := trivial
theorem PySem.W.Fast.tw18310050148483457396 : True := trivial
theorem PySem.W.Fast.tw7561960143745171760 : True := trivial
theorem PySem.W.Fast.tw10320631136283409817 : True := trivial
theorem PySem.W.Fast.tw2810672283597156219 : True := trivial
theorem PySem.W.Fast.tw6161077251751124041 : True := trivial
theorem PySem.W.Fast.tw16407107437604494739 : True := trivial
theorem PySem.W.Fast.tw2736796854581833418 : True := trivial
theorem PySem.W.Fast.tw15228700914454499949 : True := trivial
theorem PySem.W.Fast.tw14174388445819924822 : True := trivial
theorem PySem.W.Fast.tw15964070417958151031 : True := trivial
theorem PySem.W.Fast.tw16309969651400413115 : True := trivial
theorem PySem.W.Fast.tw1808600941600447955 : True := trivial
theorem PySem.W.Fast.tw7104497200414427512 : True := trivial
theorem PySem.W.Fast.tw6106317807943798067 : True := trivial
theorem PySem.W.Fast.tw15764853279757263504 : True := trivial
theorem PySem.W.Fast.tw5719339750115040079 : True := trivial
theorem PySem.W.Fast.tw3358949505531364638 : True := trivial
theorem PySem.W.Fast.tw11966530152329875138 : True := trivial
theorem PySem.W.Fast.tw593733438873071708 : True := trivial
theorem PySem.W.Fast.tw10130454097772210167 : True := trivial
theorem PySem.W.Fast.tw14994892369125949301 : True := trivial
theorem PySem.W.Fast.tw14687777397429688730 : True := trivial
theorem PySem.W.Fast.tw18437663949258336930 : True := trivial
theorem PySem.W.Fast.tw12020783418703038492 : True := trivial
theorem PySem.W.Fast.tw16206865839687749294 : True := trivial
theorem PySem.W.Fast.tw1161373011823916298 : True := trivial
theorem PySem.W.Fast.tw5765253737508157428 : True := trivial
theorem PySem.W.Fast.tw6599350491101312271 : True := trivial
theorem PySem.W.Fast.tw2048784332760364186 : True := trivial
theorem PySem.W.Fast.tw4478618491824457631 : True := trivial
theorem PySem.W.Fast.tw8541379290856066622 : True := trivial
theorem PySem.W.Fast.tw9149951001606905201 : True := trivial
theorem PySem.W.Fast.tw2075100445860536810 : True := trivial
theorem PySem.W.Fast.tw15072546416078416613 : True := trivial
theorem PySem.W.Fast.tw15926300519098982170 : True := trivial
theorem PySem.W.Fast.tw14731741236055482404 : True := trivial
theorem PySem.W.Fast.tw15828191591928639903 : True := trivial
theorem PySem.W.Fast.tw931547381560646662 : True := trivial
theorem PySem.W.Fast.tw13245778621758890297 : True := trivial
theorem PySem.W.Fast.tw7982362739148480961 : True := trivial
theorem PySem.W.Fast.tw16499320296466549106 : True := trivial
theorem PySem.W.Fast.tw7551703463064597443 : True := trivial
theorem PySem.W.Fast.tw8611080943023676447 : True := trivial
theorem PySem.W.Fast.tw7716638738802731071 : True := trivial
theorem PySem.W.Fast.tw12801319953086777402 : True := trivial
theorem PySem.W.Fast.tw7123503550435923790 : True := trivial
theorem PySem.W.Fast.tw497840445107230826 : True := trivial
theorem PySem.W.Fast.tw13079342244835350151 : True := trivial
theorem PySem.W.Fast.tw5619915694556735237 : True := trivial
theorem PySem.W.Fast.tw5819078293657161790 : True := trivial
theorem PySem.W.Fast.tw15398361442171668035 : True := trivial
theorem PySem.W.Fast.tw11830464992488317765 : True := trivial
theorem PySem.W.Fast.tw15113033306420990820 : True := trivial
theorem PySem.W.Fast.tw6183159470582838942 : True := trivial
theorem PySem.W.Fast.tw13924298527166788862 : True := trivial
theorem PySem.W.Fast.tw3607795563948615874 : True := trivial
theorem PySem.W.Fast.tw738401056599532443 : True := trivial
theorem PySem.W.Fast.tw18201666216385487085 : True := trivial
theorem PySem.W.Fast.tw9871916922058171487 : True := trivial
theorem PySem.W.Fast.tw7805706610146998522 : True := trivial
theorem PySem.W.Fast.tw14742161501235807009 : True := trivial
theorem PySem.W.Fast.tw2825023076960613069 : True := trivial
theorem PySem.W.Fast.tw4931016915904110930 : True := trivial
theorem PySem.W.Fast.tw2880516284750987361 : True := trivial
theorem PySem.W.Fast.tw3027886678166631716 : True := trivial
theorem PySem.W.Fast.tw17809527554979964588 : True := trivial
theorem PySem.W.Fast.tw6156311948828736265 : True := trivial
theorem PySem.W.Fast.tw10033676844686310647 : True := trivial
theorem PySem.W.Fast.tw10519262936081685966 : True := trivial
theorem PySem.W.Fast.tw17096890828692513187 : True := trivial
theorem PySem.W.Fast.tw10778454751232323164 : True := trivial
theorem PySem.W.Fast.tw3412503500992661901 : True := trivial
theorem PySem.W.Fast.tw706554413824648159 : True := trivial
theorem PySem.W.Fast.tw3019988351395280767 : True := trivial
theorem PySem.W.Fast.tw3545713150756347706 : True := trivial
theorem PySem.W.Fast.tw5130137106773128579 : True := trivial
theorem PySem.W.Fast.tw17623541181027584551 : True := trivial
theorem PySem.W.Fast.tw9964244287235718813 : True := trivial
theorem PySem.W.Fast.tw14292671851402500107 : True := trivial
theorem PySem.W.Fast.tw872149237492078621 : True := trivial
theorem PySem.W.Fast.tw1454902134878528692 : True := trivial
theorem PySem.W.Fast.tw13840314262030382357 : True := trivial
theorem PySem.W.Fast.tw11392182815858550398 : True := trivial
theorem PySem.W.Fast.tw5364233093701054406 : True := trivial
theorem PySem.W.Fast.tw2247871623216035028 : True := trivial
theorem PySem.W.Fast.tw5061667698043000593 : True := trivial
theorem PySem.W.Fast.tw85811865606545374 : True := trivial
theorem PySem.W.Fast.tw12312592131279529234 : True := trivial
theorem PySem.W.Fast.tw1778536556207542609 : True := trivial
theorem PySem.W.Fast.tw6577097474420986097 : True := trivial
theorem PySem.W.Fast.tw15845861333189772985 : True := trivial
theorem PySem.W.Fast.tw984162988869524818 : True := trivial
theorem PySem.W.Fast.tw17392480532929935769 : True := trivial
theorem PySem.W.Fast.tw2520821882107568164 : True := trivial
theorem PySem.W.Fast.tw1181579931398219718 : True := trivial
theorem PySem.W.Fast.tw17198174818572437709 : True := trivial
theorem PySem.W.Fast.tw14553543243938361118 : True := trivial
theorem PySem.W.Fast.tw10534227131573029271 : True := trivial
theorem PySem.W.Fast.tw9756901465357987822 : True := trivial
theorem PySem.W.Fast.tw5955159567361142992 : True := trivial
theorem PySem.W.Fast.tw17154344799604070325 : True := trivial
theorem PySem.W.Fast.tw10096076097242075389 : True := trivial
theorem PySem.W.Fast.tw2607383670973119952 : True := trivial
theorem PySem.W.Fast.tw10334486804250811762 : True := trivial
theorem PySem.W.Fast.tw2540324341467670913 : True := trivial
theorem PySem.W.Fast.tw1127201946391906942 : True := trivial
theorem PySem.W.Fast.tw4623250950466300530 : True := trivial
theorem PySem.W.Fast.tw15095306217626979504 : True := trivial
theorem PySem.W.Fast.tw4195940729179460872 : True := trivial
theorem PySem.W.Fast.tw15048981266582437961 : True := trivial
theorem PySem.W.Fast.tw6177112576935980144 : True := trivial
theorem PySem.W.Fast.tw13192930370234094902 : True := trivial
theorem PySem.W.Fast.tw1169369981023412958 : True := trivial
theorem PySem.W.Fast.tw1706259570821360357 : True := trivial
theorem PySem.W.Fast.tw1024250318809358553 : True := trivial
theorem PySem.W.Fast.tw8226130576613008378 : True := trivial
theorem PySem.W.Fast.tw13114189349034306171 : True := trivial
theorem PySem.W.Fast.tw11023158151193320627 : True := trivial
theorem PySem.W.Fast.tw8682157216793965283 : True := trivial
theorem PySem.W.Fast.tw15603537121637514154 : True := trivial
theorem PySem.W.Fast.tw10094789168216958597 : True := trivial
theorem PySem.W.Fast.tw8261152804950792517 : True := trivial
theorem PySem.W.Fast.tw14159764189357804114 : True := trivial
theorem PySem.W.Fast.tw8940592491739558310 : True := trivial
theorem PySem.W.Fast.tw5567136321766739049 : True := trivial
theorem PySem.W.Fast.tw14987449253148703640 : True := trivial
theorem PySem.W.Fast.tw596155431044972622 : True := trivial
theorem PySem.W.Fast.tw1047758346465701058 : True := trivial
theorem PySem.W.Fast.tw8231336276897158891 : True := trivial
theorem PySem.W.Fast.tw5879574906201523492 : True := trivial
theorem PySem.W.Fast.tw15453225456440090365 : True := trivial
theorem PySem.W.Fast.tw14046928702406476172 : True := trivial
open PySem PySem.W PyProof.Rows
set_option maxRecDepth 100000 in
set_option maxHeartbeats 0 in
theorem PySem.Challenge.cw_pumpnet_s01_answers_holds : PySem.Challenge.rw_pumpnet_s01_answers.Holds := by
  w_on; k_headS; (case hw => exact ⟨[.list [.int 8]], by decide +kernel, by decide +kernel⟩)
  k_fillS
  refine L2.walk_specK (r := PySem.Challenge.rw_pumpnet_s01_answers) (k := 8) (CX := L2.CX0) (ps := ["calls"]) (sp := Pn.sp_answers) (by decide +kernel) rfl rfl ⟨rfl, by decide, by decide⟩ (fun w h Y => PySem.W.kIn_of Y) ?F ?S (fun _ _ _ _ z => z)
  case F =>
    intro w mg fa h Y KX G hmg
    refine' Pn.all_of hmg ?c_Valve ?n_Valve_a ?n_Valve_b ?n_Valve_travel ?n_Valve_place ?n_Valve_up ?c_Flow ?n_Flow_fed ?n_Flow_drained ?c_Net ?n_Net_flags ?n_Net_pipes ?n_Net_valves ?n_Net_forbidden ?c_Pump ?n_Pump_a ?n_Pump_b ?n_Pump_den ?n_Pump_stroke ?n_Pump_slope ?n_Pump_per ?n_Pump_tol ?n_Pump_target ?n_Pump_speed ?n_Pump_gathered ?n_Pump_position ?n_Pump_moved ?n_Pump_bad ?n_Pump_fault ?c_Plant ?n_Plant_net ?n_Plant_pumps ?n_Plant_clock ?f_with_count ?f_with_count_of_pairs ?f_has_both ?f_new_link_refusal ?f_node ?f_pipe ?f_valve ?f_forbid ?f_allow ?f_pump ?f_open_valve ?f_shut_valve ?f_shut_all ?f_run ?f_tick ?f_pulses ?f_clear_pump ?f_joined ?f_islands ?f_way ?f_would ?f_bridges ?f_valve_state ?f_pump_state ?f_ahead ?f_coils ?f_ledger ?f_stop_all ?f_tell_time ?f_forbidden ?f_answer ?f_Valve_init ?f_Valve_counts_as_open ?f_Valve_move ?f_beyond ?f_doors_left ?f_door_nearer ?f_least_way ?f_least_joined ?f_reached ?f_Flow_init ?f_Flow_passes ?f_Net_init ?f_Net_has_node ?f_Net_has_valve ?f_Net_add_valve ?f_Net_links ?f_Net_islands ?f_Net_are_joined ?f_Net_pairs_joined_by ?f_Net_way ?f_Net_is_bridge ?f_Net_bridges ?f_Net_forbidden_as ?f_Net_flow ?f_Net_move_valves ?f_Pump_init ?f_Pump_next_speed ?f_Pump_can_go ?f_Pump_fail ?f_Pump_gather ?f_Pump_step ?f_Pump_go_at ?f_Pump_tick ?f_Pump_ahead ?f_Pump_take_pulses ?f_Pump_judge ?f_Pump_clear_fault ?f_Plant_init ?f_Plant_has_pump ?f_Plant_add_pump ?f_Plant_faults ?f_Plant_ledger ?f_Plant_go_on ?f_answers ?i_MOST_NODES ?i_MOST_PIPES ?i_MOST_VALVES ?i_MOST_FORBIDDEN ?i_MOST_PUMPS ?i_MOST_CLOCK ?i_MOST_AHEAD ?i_OUT_OF_RANGE ?i_FULL ?i_SAME_NODE ?i_WOULD_JOIN ?i_ARE_JOINED ?i_HAS_FAULT ?i_TOO_LATE ?i_NO_WAY ?i_SOURCE ?i_END ?i_NOTHING_FLOWS ?i_SLIPPED ?t_PUMP_RANGES ?t_COILS ?t_CALLS ?t_WIDTHS ?q_COILS ?q_WIDTHS ?q_R ?q_R0 ?q_R1 ?q_R2 ?q_R3 ?q_R4 ?q_K ?q_K0 ?q_K1 ?q_K2 ?q_K3 ?q_K4 ?q_K5 ?q_K6 ?q_K7 ?q_K8 ?q_K9 ?q_K10 ?q_K11 ?q_K12 ?q_K13 ?q_K14 ?q_K15 ?q_K16 ?q_K17 ?q_K18 ?q_K19 ?q_K20 ?q_K21 ?q_K22 ?q_K23 ?q_K24 ?q_K25 ?b_abs ?b_enumerate ?b_len ?b_list ?b_max ?b_min ?b_range ?b_zip
    (case f_Valve_init => (refine' Pn.mkD_mk KX G ?n ?a ?i ?l ?c ?k ?m ?kc; (case n => k_is); (case a => k_is); (case i => k_is); (case l => k_is); (case c => k_is); (case k => k_is); (case m => k_is); (case kc => k_is)))
    (case f_Flow_init => (refine' Pn.mkD_mk KX G ?n ?a ?i ?l ?c ?k ?m ?kc; (case n => k_is); (case a => k_is); (case i => k_is); (case l => k_is); (case c => k_is); (case k => k_is); (case m => k_is); (case kc => k_is)))
    (case f_Net_init => (refine' Pn.mkD_mk KX G ?n ?a ?i ?l ?c ?k ?m ?kc; (case n => k_is); (case a => k_is); (case i => k_is); (case l => k_is); (case c => k_is); (case k => k_is); (case m => k_is); (case kc => k_is)))
    (case f_Pump_init => (refine' Pn.mkD_mk KX G ?n ?a ?i ?l ?c ?k ?m ?kc; (case n => k_is); (case a => k_is); (case i => k_is); (case l => k_is); (case c => k_is); (case k => k_is); (case m => k_is); (case kc => k_is)))
    (case f_Plant_init => (refine' Pn.mkD_mk KX G ?n ?a ?i ?l ?c ?k ?m ?kc; (case n => k_is); (case a => k_is); (case i => k_is); (case l => k_is); (case c => k_is); (case k => k_is); (case m => k_is); (case kc => k_is)))
    (case t_PUMP_RANGES => (refine' PySem.W.mg_of KX G ?a; (case a => k_is)))
    (case t_COILS => (refine' PySem.W.mg_of KX G ?a; (case a => k_is)))
    (case t_CALLS => (refine' PySem.W.mg_of KX G ?a; (case a => k_is)))
    (case t_WIDTHS => (refine' PySem.W.mg_of KX G ?a; (case a => k_is)))
    (case c_Valve => (refine' L2.Cls.mk ?pg ?hd ?po ?sa; (case pg => k_is); (case hd => k_is); (case po => k_is); (case sa => k_is)))
    (case n_Valve_a => (unfold L2.NoAttr; k_is))
    (case n_Valve_b => (unfold L2.NoAttr; k_is))
    (case n_Valve_travel => (unfold L2.NoAttr; k_is))
    (case n_Valve_place => (unfold L2.NoAttr; k_is))
    (case n_Valve_up => (unfold L2.NoAttr; k_is))
    (case c_Flow => (refine' L2.Cls.mk ?pg ?hd ?po ?sa; (case pg => k_is); (case hd => k_is); (case po => k_is); (case sa => k_is)))
    (case n_Flow_fed => (unfold L2.NoAttr; k_is))
    (case n_Flow_drained => (unfold L2.NoAttr; k_is))
    (case c_Net => (refine' L2.Cls.mk ?pg ?hd ?po ?sa; (case pg => k_is); (case hd => k_is); (case po => k_is); (case sa => k_is)))
    (case n_Net_flags => (unfold L2.NoAttr; k_is))
    (case n_Net_pipes => (unfold L2.NoAttr; k_is))
    (case n_Net_valves => (unfold L2.NoAttr; k_is))
    (case n_Net_forbidden => (unfold L2.NoAttr; k_is))
    (case c_Pump => (refine' L2.Cls.mk ?pg ?hd ?po ?sa; (case pg => k_is); (case hd => k_is); (case po => k_is); (case sa => k_is)))
    (case n_Pump_a => (unfold L2.NoAttr; k_is))
    (case n_Pump_b => (unfold L2.NoAttr; k_is))
    (case n_Pump_den => (unfold L2.NoAttr; k_is))
    (case n_Pump_stroke => (unfold L2.NoAttr; k_is))
    (case n_Pump_slope => (unfold L2.NoAttr; k_is))
    (case n_Pump_per => (unfold L2.NoAttr; k_is))
    (case n_Pump_tol => (unfold L2.NoAttr; k_is))
    (case n_Pump_target => (unfold L2.NoAttr; k_is))
    (case n_Pump_speed => (unfold L2.NoAttr; k_is))
    (case n_Pump_gathered => (unfold L2.NoAttr; k_is))
    (case n_Pump_position => (unfold L2.NoAttr; k_is))
    (case n_Pump_moved => (unfold L2.NoAttr; k_is))
    (case n_Pump_bad => (unfold L2.NoAttr; k_is))
    (case n_Pump_fault => (unfold L2.NoAttr; k_is))
    (case c_Plant => (refine' L2.Cls.mk ?pg ?hd ?po ?sa; (case pg => k_is); (case hd => k_is); (case po => k_is); (case sa => k_is)))
    (case n_Plant_net => (unfold L2.NoAttr; k_is))
    (case n_Plant_pumps => (unfold L2.NoAttr; k_is))
    (case n_Plant_clock => (unfold L2.NoAttr; k_is))
    (case f_with_count => (refine' Pn.fnD_mk KX G ?a ?l ?c ?k; (case a => k_is); (case l => k_is); (case c => k_is); (case k => k_is)))
    (case f_with_count_of_pairs => (refine' Pn.fnD_mk KX G ?a ?l ?c ?k; (case a => k_is); (case l => k_is); (case c => k_is); (case k => k_is)))
    (case f_has_both => (refine' Pn.fnD_mk KX G ?a ?l ?c ?k; (case a => k_is); (case l => k_is); (case c => k_is); (case k => k_is)))
    (case f_new_link_refusal => (refine' Pn.fnD_mk KX G ?a ?l ?c ?k; (case a => k_is); (case l => k_is); (case c => k_is); (case k => k_is)))
    (case f_node => (refine' Pn.fnD_mk KX G ?a ?l ?c ?k; (case a => k_is); (case l => k_is); (case c => k_is); (case k => k_is)))
    (case f_pipe => (refine' Pn.fnD_mk KX G ?a ?l ?c ?k; (case a => k_is); (case l => k_is); (case c => k_is); (case k => k_is)))
    (case f_valve => (refine' Pn.fnD_mk KX G ?a ?l ?c ?k; (case a => k_is); (case l => k_is); (case c => k_is); (case k => k_is)))
    (case f_forbid => (refine' Pn.fnD_mk KX G ?a ?l ?c ?k; (case a => k_is); (case l => k_is); (case c => k_is); (case k => k_is)))
    (case f_allow => (refine' Pn.fnD_mk KX G ?a ?l ?c ?k; (case a => k_is); (case l => k_is); (case c => k_is); (case k => k_is)))
    (case f_pump => (refine' Pn.fnD_mk KX G ?a ?l ?c ?k; (case a => k_is); (case l => k_is); (case c => k_is); (case k => k_is)))
    (case f_open_valve => (refine' Pn.fnD_mk KX G ?a ?l ?c ?k; (case a => k_is); (case l => k_is); (case c => k_is); (case k => k_is)))
    (case f_shut_valve => (refine' Pn.fnD_mk KX G ?a ?l ?c ?k; (case a => k_is); (case l => k_is); (case c => k_is); (case k => k_is)))
    (case f_shut_all => (refine' Pn.fnD_mk KX G ?a ?l ?c ?k; (case a => k_is); (case l => k_is); (case c => k_is); (case k => k_is)))
    (case f_run => (refine' Pn.fnD_mk KX G ?a ?l ?c ?k; (case a => k_is); (case l => k_is); (case c => k_is); (case k => k_is)))
    (case f_tick => (refine' Pn.fnD_mk KX G ?a ?l ?c ?k; (case a => k_is); (case l => k_is); (case c => k_is); (case k => k_is)))
    (case f_pulses => (refine' Pn.fnD_mk KX G ?a ?l ?c ?k; (case a => k_is); (case l => k_is); (case c => k_is); (case k => k_is)))
    (case f_clear_pump => (refine' Pn.fnD_mk KX G ?a ?l ?c ?k; (case a => k_is); (case l => k_is); (case c => k_is); (case k => k_is)))
    (case f_joined => (refine' Pn.fnD_mk KX G ?a ?l ?c ?k; (case a => k_is); (case l => k_is); (case c => k_is); (case k => k_is)))
    (case f_islands => (refine' Pn.fnD_mk KX G ?a ?l ?c ?k; (case a => k_is); (case l => k_is); (case c => k_is); (case k => k_is)))
    (case f_way => (refine' Pn.fnD_mk KX G ?a ?l ?c ?k; (case a => k_is); (case l => k_is); (case c => k_is); (case k => k_is)))
    (case f_would => (refine' Pn.fnD_mk KX G ?a ?l ?c ?k; (case a => k_is); (case l => k_is); (case c => k_is); (case k => k_is)))
    (case f_bridges => (refine' Pn.fnD_mk KX G ?a ?l ?c ?k; (case a => k_is); (case l => k_is); (case c => k_is); (case k => k_is)))
    (case f_valve_state => (refine' Pn.fnD_mk KX G ?a ?l ?c ?k; (case a => k_is); (case l => k_is); (case c => k_is); (case k => k_is)))
    (case f_pump_state => (refine' Pn.fnD_mk KX G ?a ?l ?c ?k; (case a => k_is); (case l => k_is); (case c => k_is); (case k => k_is)))
    (case f_ahead => (refine' Pn.fnD_mk KX G ?a ?l ?c ?k; (case a => k_is); (case l => k_is); (case c => k_is); (case k => k_is)))
    (case f_coils => (refine' Pn.fnD_mk KX G ?a ?l ?c ?k; (case a => k_is); (case l => k_is); (case c => k_is); (case k => k_is)))
    (case f_ledger => (refine' Pn.fnD_mk KX G ?a ?l ?c ?k; (case a => k_is); (case l => k_is); (case c => k_is); (case k => k_is)))
    (case f_stop_all => (refine' Pn.fnD_mk KX G ?a ?l ?c ?k; (case a => k_is); (case l => k_is); (case c => k_is); (case k => k_is)))
    (case f_tell_time => (refine' Pn.fnD_mk KX G ?a ?l ?c ?k; (case a => k_is); (case l => k_is); (case c => k_is); (case k => k_is)))
    (case f_forbidden => (refine' Pn.fnD_mk KX G ?a ?l ?c ?k; (case a => k_is); (case l => k_is); (case c => k_is); (case k => k_is)))
    (case f_answer => (refine' Pn.fnD_mk KX G ?a ?l ?c ?k; (case a => k_is); (case l => k_is); (case c => k_is); (case k => k_is)))
    (case f_Valve_counts_as_open => (refine' Pn.meD_mk ?a ?i ?l ?c ?k; (case a => k_is); (case i => k_is); (case l => k_is); (case c => k_is); (case k => k_is)))
    (case f_Valve_move => (refine' Pn.meD_mk ?a ?i ?l ?c ?k; (case a => k_is); (case i => k_is); (case l => k_is); (case c => k_is); (case k => k_is)))
    (case f_beyond => (refine' Pn.fnD_mk KX G ?a ?l ?c ?k; (case a => k_is); (case l => k_is); (case c => k_is); (case k => k_is)))
    (case f_doors_left => (refine' Pn.fnD_mk KX G ?a ?l ?c ?k; (case a => k_is); (case l => k_is); (case c => k_is); (case k => k_is)))
    (case f_door_nearer => (refine' Pn.fnD_mk KX G ?a ?l ?c ?k; (case a => k_is); (case l => k_is); (case c => k_is); (case k => k_is)))
    (case f_least_way => (refine' Pn.fnD_mk KX G ?a ?l ?c ?k; (case a => k_is); (case l => k_is); (case c => k_is); (case k => k_is)))
    (case f_least_joined => (refine' Pn.fnD_mk KX G ?a ?l ?c ?k; (case a => k_is); (case l => k_is); (case c => k_is); (case k => k_is)))
    (case f_reached => (refine' Pn.fnD_mk KX G ?a ?l ?c ?k; (case a => k_is); (case l => k_is); (case c => k_is); (case k => k_is)))
    (case f_Flow_passes => (refine' Pn.meD_mk ?a ?i ?l ?c ?k; (case a => k_is); (case i => k_is); (case l => k_is); (case c => k_is); (case k => k_is)))
    (case f_Net_has_node => (refine' Pn.meD_mk ?a ?i ?l ?c ?k; (case a => k_is); (case i => k_is); (case l => k_is); (case c => k_is); (case k => k_is)))
    (case f_Net_has_valve => (refine' Pn.meD_mk ?a ?i ?l ?c ?k; (case a => k_is); (case i => k_is); (case l => k_is); (case c => k_is); (case k => k_is)))
    (case f_Net_add_valve => (refine' Pn.meD_mk ?a ?i ?l ?c ?k; (case a => k_is); (case i => k_is); (case l => k_is); (case c => k_is); (case k => k_is)))
    (case f_Net_links => (refine' Pn.meD_mk ?a ?i ?l ?c ?k; (case a => k_is); (case i => k_is); (case l => k_is); (case c => k_is); (case k => k_is)))
    (case f_Net_islands => (refine' Pn.meD_mk ?a ?i ?l ?c ?k; (case a => k_is); (case i => k_is); (case l => k_is); (case c => k_is); (case k => k_is)))
    (case f_Net_are_joined => (refine' Pn.meD_mk ?a ?i ?l ?c ?k; (case a => k_is); (case i => k_is); (case l => k_is); (case c => k_is); (case k => k_is)))
    (case f_Net_pairs_joined_by => (refine' Pn.meD_mk ?a ?i ?l ?c ?k; (case a => k_is); (case i => k_is); (case l => k_is); (case c => k_is); (case k => k_is)))
    (case f_Net_way => (refine' Pn.meD_mk ?a ?i ?l ?c ?k; (case a => k_is); (case i => k_is); (case l => k_is); (case c => k_is); (case k => k_is)))
    (case f_Net_is_bridge => (refine' Pn.meD_mk ?a ?i ?l ?c ?k; (case a => k_is); (case i => k_is); (case l => k_is); (case c => k_is); (case k => k_is)))
    (case f_Net_bridges => (refine' Pn.meD_mk ?a ?i ?l ?c ?k; (case a => k_is); (case i => k_is); (case l => k_is); (case c => k_is); (case k => k_is)))
    (case f_Net_forbidden_as => (refine' Pn.meD_mk ?a ?i ?l ?c ?k; (case a => k_is); (case i => k_is); (case l => k_is); (case c => k_is); (case k => k_is)))
    (case f_Net_flow => (refine' Pn.meD_mk ?a ?i ?l ?c ?k; (case a => k_is); (case i => k_is); (case l => k_is); (case c => k_is); (case k => k_is)))
    (case f_Net_move_valves => (refine' Pn.meD_mk ?a ?i ?l ?c ?k; (case a => k_is); (case i => k_is); (case l => k_is); (case c => k_is); (case k => k_is)))
    (case f_Pump_next_speed => (refine' Pn.meD_mk ?a ?i ?l ?c ?k; (case a => k_is); (case i => k_is); (case l => k_is); (case c => k_is); (case k => k_is)))
    (case f_Pump_can_go => (refine' Pn.meD_mk ?a ?i ?l ?c ?k; (case a => k_is); (case i => k_is); (case l => k_is); (case c => k_is); (case k => k_is)))
    (case f_Pump_fail => (refine' Pn.meD_mk ?a ?i ?l ?c ?k; (case a => k_is); (case i => k_is); (case l => k_is); (case c => k_is); (case k => k_is)))
    (case f_Pump_gather => (refine' Pn.meD_mk ?a ?i ?l ?c ?k; (case a => k_is); (case i => k_is); (case l => k_is); (case c => k_is); (case k => k_is)))
    (case f_Pump_step => (refine' Pn.meD_mk ?a ?i ?l ?c ?k; (case a => k_is); (case i => k_is); (case l => k_is); (case c => k_is); (case k => k_is)))
    (case f_Pump_go_at => (refine' Pn.meD_mk ?a ?i ?l ?c ?k; (case a => k_is); (case i => k_is); (case l => k_is); (case c => k_is); (case k => k_is)))
    (case f_Pump_tick => (refine' Pn.meD_mk ?a ?i ?l ?c ?k; (case a => k_is); (case i => k_is); (case l => k_is); (case c => k_is); (case k => k_is)))
    (case f_Pump_ahead => (refine' Pn.meD_mk ?a ?i ?l ?c ?k; (case a => k_is); (case i => k_is); (case l => k_is); (case c => k_is); (case k => k_is)))
    (case f_Pump_take_pulses => (refine' Pn.meD_mk ?a ?i ?l ?c ?k; (case a => k_is); (case i => k_is); (case l => k_is); (case c => k_is); (case k => k_is)))
    (case f_Pump_judge => (refine' Pn.meD_mk ?a ?i ?l ?c ?k; (case a => k_is); (case i => k_is); (case l => k_is); (case c => k_is); (case k => k_is)))
    (case f_Pump_clear_fault => (refine' Pn.meD_mk ?a ?i ?l ?c ?k; (case a => k_is); (case i => k_is); (case l => k_is); (case c => k_is); (case k => k_is)))
    (case f_Plant_has_pump => (refine' Pn.meD_mk ?a ?i ?l ?c ?k; (case a => k_is); (case i => k_is); (case l => k_is); (case c => k_is); (case k => k_is)))
    (case f_Plant_add_pump => (refine' Pn.meD_mk ?a ?i ?l ?c ?k; (case a => k_is); (case i => k_is); (case l => k_is); (case c => k_is); (case k => k_is)))
    (case f_Plant_faults => (refine' Pn.meD_mk ?a ?i ?l ?c ?k; (case a => k_is); (case i => k_is); (case l => k_is); (case c => k_is); (case k => k_is)))
    (case f_Plant_ledger => (refine' Pn.meD_mk ?a ?i ?l ?c ?k; (case a => k_is); (case i => k_is); (case l => k_is); (case c => k_is); (case k => k_is)))
    (case f_Plant_go_on => (refine' Pn.meD_mk ?a ?i ?l ?c ?k; (case a => k_is); (case i => k_is); (case l => k_is); (case c => k_is); (case k => k_is)))
    (case f_answers => (refine' Pn.fnD_mk KX G ?a ?l ?c ?k; (case a => k_is); (case l => k_is); (case c => k_is); (case k => k_is)))
    (case i_MOST_NODES => (refine' Pn.int_mk KX G ?a; (case a => k_is)))
    (case i_MOST_PIPES => (refine' Pn.int_mk KX G ?a; (case a => k_is)))
    (case i_MOST_VALVES => (refine' Pn.int_mk KX G ?a; (case a => k_is)))
    (case i_MOST_FORBIDDEN => (refine' Pn.int_mk KX G ?a; (case a => k_is)))
    (case i_MOST_PUMPS => (refine' Pn.int_mk KX G ?a; (case a => k_is)))
    (case i_MOST_CLOCK => (refine' Pn.int_mk KX G ?a; (case a => k_is)))
    (case i_MOST_AHEAD => (refine' Pn.int_mk KX G ?a; (case a => k_is)))
    (case i_OUT_OF_RANGE => (refine' Pn.int_mk KX G ?a; (case a => k_is)))
    (case i_FULL => (refine' Pn.int_mk KX G ?a; (case a => k_is)))
    (case i_SAME_NODE => (refine' Pn.int_mk KX G ?a; (case a => k_is)))
    (case i_WOULD_JOIN => (refine' Pn.int_mk KX G ?a; (case a => k_is)))
    (case i_ARE_JOINED => (refine' Pn.int_mk KX G ?a; (case a => k_is)))
    (case i_HAS_FAULT => (refine' Pn.int_mk KX G ?a; (case a => k_is)))
    (case i_TOO_LATE => (refine' Pn.int_mk KX G ?a; (case a => k_is)))
    (case i_NO_WAY => (refine' Pn.int_mk KX G ?a; (case a => k_is)))
    (case i_SOURCE => (refine' Pn.int_mk KX G ?a; (case a => k_is)))
    (case i_END => (refine' Pn.int_mk KX G ?a; (case a => k_is)))
    (case i_NOTHING_FLOWS => (refine' Pn.int_mk KX G ?a; (case a => k_is)))
    (case i_SLIPPED => (refine' Pn.int_mk KX G ?a; (case a => k_is)))
    (case q_COILS => (refine' Pn.sqT_mk ?l ?z ?r; (case l => k_is); (case z => decide +kernel); (case r => exact (.cons ⟨_, rfl⟩ (.cons ⟨_, rfl⟩ (.cons ⟨_, rfl⟩ (.cons ⟨_, rfl⟩ (.cons ⟨_, rfl⟩ (.cons ⟨_, rfl⟩ (.cons ⟨_, rfl⟩ (.cons ⟨_, rfl⟩ .nil)))))))))))
    (case q_WIDTHS => (refine' Pn.sqT_mk ?l ?z ?r; (case l => k_is); (case z => decide +kernel); (case r => exact (.cons ⟨_, rfl⟩ (.cons ⟨_, rfl⟩ (.cons ⟨_, rfl⟩ (.cons ⟨_, rfl⟩ (.cons ⟨_, rfl⟩ (.cons ⟨_, rfl⟩ (.cons ⟨_, rfl⟩ (.cons ⟨_, rfl⟩ (.cons ⟨_, rfl⟩ (.cons ⟨_, rfl⟩ (.cons ⟨_, rfl⟩ (.cons ⟨_, rfl⟩ (.cons ⟨_, rfl⟩ (.cons ⟨_, rfl⟩ (.cons ⟨_, rfl⟩ (.cons ⟨_, rfl⟩ (.cons ⟨_, rfl⟩ (.cons ⟨_, rfl⟩ (.cons ⟨_, rfl⟩ (.cons ⟨_, rfl⟩ (.cons ⟨_, rfl⟩ (.cons ⟨_, rfl⟩ (.cons ⟨_, rfl⟩ (.cons ⟨_, rfl⟩ (.cons ⟨_, rfl⟩ (.cons ⟨_, rfl⟩ .nil)))))))))))))))))))))))))))))
    (case q_R => (refine' Pn.sqT_mk ?l ?z ?r; (case l => k_is); (case z => decide +kernel); (case r => exact (.cons rfl (.cons rfl (.cons rfl (.cons rfl (.cons rfl .nil))))))))
    (case q_R0 => (refine' Pn.sqT_mk ?l ?z ?r; (case l => k_is); (case z => decide +kernel); (case r => exact (.cons ⟨_, rfl⟩ (.cons ⟨_, rfl⟩ .nil)))))
    (case q_R1 => (refine' Pn.sqT_mk ?l ?z ?r; (case l => k_is); (case z => decide +kernel); (case r => exact (.cons ⟨_, rfl⟩ (.cons ⟨_, rfl⟩ .nil)))))
    (case q_R2 => (refine' Pn.sqT_mk ?l ?z ?r; (case l => k_is); (case z => decide +kernel); (case r => exact (.cons ⟨_, rfl⟩ (.cons ⟨_, rfl⟩ .nil)))))
    (case q_R3 => (refine' Pn.sqT_mk ?l ?z ?r; (case l => k_is); (case z => decide +kernel); (case r => exact (.cons ⟨_, rfl⟩ (.cons ⟨_, rfl⟩ .nil)))))
    (case q_R4 => (refine' Pn.sqT_mk ?l ?z ?r; (case l => k_is); (case z => decide +kernel); (case r => exact (.cons ⟨_, rfl⟩ (.cons ⟨_, rfl⟩ .nil)))))
    (case q_K => (refine' Pn.sqT_mk ?l ?z ?r; (case l => k_is); (case z => decide +kernel); (case r => exact (.cons rfl (.cons rfl (.cons rfl (.cons rfl (.cons rfl (.cons rfl (.cons rfl (.cons rfl (.cons rfl (.cons rfl (.cons rfl (.cons rfl (.cons rfl (.cons rfl (.cons rfl (.cons rfl (.cons rfl (.cons rfl (.cons rfl (.cons rfl (.cons rfl (.cons rfl (.cons rfl (.cons rfl (.cons rfl (.cons rfl .nil)))))))))))))))))))))))))))))
    (case q_K0 => (refine' PySem.W.mg_of KX G ?a; (case a => k_is)))
    (case q_K1 => (refine' PySem.W.mg_of KX G ?a; (case a => k_is)))
    (case q_K2 => (refine' PySem.W.mg_of KX G ?a; (case a => k_is)))
    (case q_K3 => (refine' PySem.W.mg_of KX G ?a; (case a => k_is)))
    (case q_K4 => (refine' PySem.W.mg_of KX G ?a; (case a => k_is)))
    (case q_K5 => (refine' PySem.W.mg_of KX G ?a; (case a => k_is)))
    (case q_K6 => (refine' PySem.W.mg_of KX G ?a; (case a => k_is)))
    (case q_K7 => (refine' PySem.W.mg_of KX G ?a; (case a => k_is)))
    (case q_K8 => (refine' PySem.W.mg_of KX G ?a; (case a => k_is)))
    (case q_K9 => (refine' PySem.W.mg_of KX G ?a; (case a => k_is)))
    (case q_K10 => (refine' PySem.W.mg_of KX G ?a; (case a => k_is)))
    (case q_K11 => (refine' PySem.W.mg_of KX G ?a; (case a => k_is)))
    (case q_K12 => (refine' PySem.W.mg_of KX G ?a; (case a => k_is)))
    (case q_K13 => (refine' PySem.W.mg_of KX G ?a; (case a => k_is)))
    (case q_K14 => (refine' PySem.W.mg_of KX G ?a; (case a => k_is)))
    (case q_K15 => (refine' PySem.W.mg_of KX G ?a; (case a => k_is)))
    (case q_K16 => (refine' PySem.W.mg_of KX G ?a; (case a => k_is)))
    (case q_K17 => (refine' PySem.W.mg_of KX G ?a; (case a => k_is)))
    (case q_K18 => (refine' PySem.W.mg_of KX G ?a; (case a => k_is)))
    (case q_K19 => (refine' PySem.W.mg_of KX G ?a; (case a => k_is)))
    (case q_K20 => (refine' PySem.W.mg_of KX G ?a; (case a => k_is)))
    (case q_K21 => (refine' PySem.W.mg_of KX G ?a; (case a => k_is)))
    (case q_K22 => (refine' PySem.W.mg_of KX G ?a; (case a => k_is)))
    (case q_K23 => (refine' PySem.W.mg_of KX G ?a; (case a => k_is)))
    (case q_K24 => (refine' PySem.W.mg_of KX G ?a; (case a => k_is)))
    (case q_K25 => (refine' PySem.W.mg_of KX G ?a; (case a => k_is)))
    (case b_abs => (refine' PySem.W.mg_none_of KX G ?a; (case a => k_is)))
    (case b_enumerate => (refine' PySem.W.mg_none_of KX G ?a; (case a => k_is)))
    (case b_len => (refine' PySem.W.mg_none_of KX G ?a; (case a => k_is)))
    (case b_list => (refine' PySem.W.mg_none_of KX G ?a; (case a => k_is)))
    (case b_max => (refine' PySem.W.mg_none_of KX G ?a; (case a => k_is)))
    (case b_min => (refine' PySem.W.mg_none_of KX G ?a; (case a => k_is)))
    (case b_range => (refine' PySem.W.mg_none_of KX G ?a; (case a => k_is)))
    (case b_zip => (refine' PySem.W.mg_none_of KX G ?a; (case a => k_is)))
  case S =>
    intro K H xs a hO hwi hask hx
    cases hx with
    | cons h1 h2 =>
      cases h2
      cases h1 with
      | lst hs ha =>
        have e := L2.ints_dw a.1 _ ha
        subst e
        exact ⟨_, a.1, rfl, hs, hask, fun H' p hp => .lst (L2.SqL.of hp) (L2.dw_ints _)⟩
#print axioms PySem.Challenge.cw_pumpnet_s01_answers_holds

